/- callWithFrame. -/
import Derived.Test.YtcgabodkegcpgaaDoorOpn
set_option linter.unusedVariables false
set_option linter.unusedSimpArgs false
set_option maxHeartbeats 20000000
set_option maxRecDepth 100000
namespace Go.Proofs.YtcgabodkegcpgaaDoor
open Go.Conc Go.RowKit
open Br (OpD KO SO SP sfO Lk Fit Must DL Liv Clear)
section
variable {C:Ctx} {n:Nat} {pv:List Nat} {H:w9} {free:Value} {go:Bool}
theorem Sta.store {l:List OpD}{K:Ker}{un:Bool}{w:World}(St:Sta C l K pv H free un go w){b:Nat}(hb:b∈pv){c:Array Value}{t:TypeId}(hH:H b=.cells c t (0,0))(j:Nat)(x:Value) :
  Sta C l K pv (H.set b (.cells (c.setIfInBounds j x) t (0,0))) free un go (w.setCell ⟨b,j,none⟩ x)/\Mine C (C.o.bo::pv) w (w.setCell ⟨b,j,none⟩ x)/\sfO l b=0:=by
 obtain ⟨H',A,hA⟩:=St;have hbo:=(hA b hb).1;have hbm:b∈C.o.bo::pv:=List.mem_cons_of_mem _ hb;have hbw:w.heap[b]?=some (.cells c t (0,0)):=by rw [A.has b hbm,(hA b hb).2,hH]
 have hk:∀ k,k≠b->(w.setCell ⟨b,j,none⟩ x).heap[k]?=w.heap[k]?:=λk hk=>by rw [Br.heap_setCell,if_neg (λe=>hk e.symm)]
 have hbw':(w.setCell ⟨b,j,none⟩ x).heap[b]?=some (.cells (c.setIfInBounds j x) t (0,0)):=by rw [Br.heap_setCell,if_pos rfl,hbw];rfl
 have hsz:(w.setCell ⟨b,j,none⟩ x).heap.size=w.heap.size:=by simp [World.setCell]
 obtain ⟨t2,hrow⟩:=A.blk;obtain ⟨b0,b1,b2,b3,b4⟩:=A.own.ap b hbm;have hz:sfO l b=0:=Br.G6 λo ho=>A.far b hbm hbo o ho;have A':=A.chg (w':=w.setCell ⟨b,j,none⟩ x) hbo hbm (A.env.rep.same (Nat.le_of_eq hsz.symm) (λk _ h=>hk k (by rcases h with rfl|rfl|rfl|rfl<;>first|exact Ne.symm b0|exact Ne.symm b1|exact Ne.symm b2|exact Ne.symm b3))) ⟨λi hi=>?_,(Br.F5 A.clear.lk (Nat.zero_le _) _).1.sight⟩ (Nat.le_of_eq hsz.symm) (λk _ h1 _=>hk k h1) hbw' (by rw [hk _ (Ne.symm hbo)];exact hrow)
 ·refine ⟨⟨_,A',λi hi=>⟨(hA i hi).1,?_⟩⟩,⟨Nat.le_of_eq hsz.symm,λk _ h0 _ _ _=>hk k (λe=>h0 (e▸hbm))⟩,hz⟩;rw [w9.set_other _ _ (hA i hi).1]
  by_cases e:i=b
  ·subst e;rw [w9.set_same,w9.set_same]
  ·rw [w9.set_other _ _ e,w9.set_other _ _ e];exact (hA i hi).2
 ·have hib:i≠b:=λe=>hi (e▸hz);obtain ⟨c',t',h⟩:=A.env.fit.soft i hi;exact ⟨c',t',by rw [hk i hib];exact h⟩
theorem b0q {s:q7}{g g':Goroutine}{b:Nat}(hb:b∈pv){c:Array Value}{t:TypeId}(hH:H b=.cells c t (0,0))(j:Nat)(x:Value)
  (hstep:∀ l K un w (Stop:Goroutine->World->Prop),Sta C l K pv H free un go w->sfO l b=0->(∀ d,Must Tryd.prog false (DL true (sfO l)) Stop g' ((w.setCell ⟨b,j,none⟩ x).at d))->∀ d,Must Tryd.prog false (DL true (sfO l)) Stop g (w.at d))
  (hn:o9 C n s pv (H.set b (.cells (c.setIfInBounds j x) t (0,0))) free go g'):o9 C n s pv H free go g :=
 X7 (R:=λpv' H' free' g''=>pv'=pv/\H'=H.set b (.cells (c.setIfInBounds j x) t (0,0))/\free'=free/\g''=g') (λl K un w Stop St h d=>by
  obtain ⟨S1,M1,z⟩:=St.store hb hH j x
  exact hstep l K un w Stop St z (h _ _ _ _ _ ⟨rfl,rfl,rfl,rfl⟩ S1 M1 (λi hi=>.inl hi)) d)
  (λpv' H' free' g'' ⟨h1,h2,h3,h4⟩=>by subst h1 h2 h3 h4;exact hn)
theorem w9.set_set (H:w9)(b:Nat)(x y:Obj):(H.set b x).set b y=H.set b y:=by funext i;by_cases e:i=b<;>simp [w9.set,e]
theorem w9.set_self (H:w9){b:Nat}{x:Obj}(h:H b=x):H.set b x=H:=by funext i;by_cases e:i=b<;>simp [w9.set,e,h]
theorem Fr.more {fb:Option Nat}{xs:List Int}{b:Nat}{X:Obj}(hb:b ∉ pv)(h:Fr fb pv H free xs):Fr fb (b::pv) (H.set b X) free xs:=by
 obtain ⟨sl,h1,h2,h3,h4,h5⟩:=h;refine ⟨sl,h1,h2,h3,h4,h5.imp id λ⟨b',c,t,g1,g2,g3,g4⟩=>⟨b',c,t,g1,List.mem_cons_of_mem _ g2,?_,g4⟩⟩;rw [w9.set_other _ _ (λe=>hb (by rw [← e];exact g2))];exact g3
theorem Fr.less {fb:Option Nat}{xs:List Int}{b:Nat}(hb:fb≠some b)(h:Fr fb (b::pv) H free xs):Fr fb pv H free xs:=by
 obtain ⟨sl,h1,h2,h3,h4,h5⟩:=h;refine ⟨sl,h1,h2,h3,h4,h5.imp id λ⟨b',c,t,g1,g2,g3,g4⟩=>⟨b',c,t,g1,?_,g3,g4⟩⟩;rcases List.mem_cons.1 g2 with rfl|g2
 ·exact absurd (h1.symm.trans g1) hb
 ·exact g2
noncomputable def Q9:List Item :=
 match Tryd.f81.body with
 | some (.seq _ (.seq (.block i (.loop c)) r))=>[.code c,.inLoop c,.inBlock i,.code r]
 | _=>[]
def a1L (num:Int):Nat->(a b c:Int)->List Int->M (Int × List Int)
 | 0,_,_,_,xs=>(T0 10).bind λe=>M.pure (e,xs)
 | f+1,a,b,c,xs=>match xs with
  | []=>(T0 10).bind λe=>M.pure (e,[])
  | x::r=>(V3 num a x c).bind λz=>if z.2=5 then a1L num f a x c (K8 (x::r)) else M.pure (z.2,if z.2=0 then K8 (x::r) else x::r)
theorem b1G (hspec:Z8)(hpl:∀ xs:List Int,xs≠[]->(K8 xs).length=xs.length - 1)(num:Int)(y2:Value)(fb:Option Nat)(fr:Frame)(cs:List Frame)(k:Int × List Int->Bool->q7)(bx:Nat)(hb:bx ∉ pv)(hbf:fb≠some bx)(H0:w9)
  (hn:∀ e xs' H' free' go',Fr fb pv H' free' xs'->(∀ i∈pv,some i≠fb->H' i=H0 i)->o9 C n (k (e,xs') go') pv H' free' go' (G (fr.finish (.int .i64 e)) cs)) :
  ∀ (f:Nat) (xs:List Int) (H:w9) (free:Value) (a b c:Int),xs.length<=f->Fr fb pv H free xs->(∀ i∈pv,some i≠fb->H i=H0 i)->∀ (go:Bool) (j9 j10 j11 j12 j13 j14 j15 j16 j17 j18 j19 j20 j21 j22 j23 j24 j25 j26 j27 j28 j29 j30 j31 j32 j33 j34 j35 j36 j37 j38 j39 j40 j41 j42 j43 j44 j45 j46 j47:Value),
  o9 C n ((a1L num f a b c xs).then go k) (bx::pv) (H.set bx (A9 a b c)) free go (G ((base 81).at ⟨#[pO C.o,.int .i64 num,y2,.int .i64 1,undef,undef,.pointer (some ⟨bx,0,none⟩),undef,.int .i64 0,j9,j10,j11,j12,j13,j14,j15,j16,j17,j18,j19,j20,j21,j22,j23,j24,j25,j26,j27,j28,j29,j30,j31,j32,j33,j34,j35,j36,j37,j38,j39,j40,j41,j42,j43,j44,j45,j46,j47],[]⟩ Q9) (fr::cs)):=by
 have nil0:∀ (H:w9) (free:Value) (a b c:Int),Fr fb pv H free []->(∀ i∈pv,some i≠fb->H i=H0 i)->∀ (go:Bool) (j9 j10 j11 j12 j13 j14 j15 j16 j17 j18 j19 j20 j21 j22 j23 j24 j25 j26 j27 j28 j29 j30 j31 j32 j33 j34 j35 j36 j37 j38 j39 j40 j41 j42 j43 j44 j45 j46 j47:Value),
   o9 C n (((T0 10).bind λe=>M.pure (e,([]:List Int))).then go k) (bx::pv) (H.set bx (A9 a b c)) free go (G ((base 81).at ⟨#[pO C.o,.int .i64 num,y2,.int .i64 1,undef,undef,.pointer (some ⟨bx,0,none⟩),undef,.int .i64 0,j9,j10,j11,j12,j13,j14,j15,j16,j17,j18,j19,j20,j21,j22,j23,j24,j25,j26,j27,j28,j29,j30,j31,j32,j33,j34,j35,j36,j37,j38,j39,j40,j41,j42,j43,j44,j45,j46,j47],[]⟩ Q9) (fr::cs)):=by
  intro H free a b c hF hH go j9 j10 j11 j12 j13 j14 j15 j16 j17 j18 j19 j20 j21 j22 j23 j24 j25 j26 j27 j28 j29 j30 j31 j32 j33 j34 j35 j36 j37 j38 j39 j40 j41 j42 j43 j44 j45 j46 j47;have hF0:=hF;obtain ⟨sl,h1,h2,h3,h4⟩:=hF;have hv:free=.slice (sl.blk.map (⟨·,0,none⟩)) 0 sl.cap:=by rw [h2,Sl.val,h3];rfl
  rw [M.bind_then];unfold Q9;simp only [Tryd.f81,pO];apply d7
  ·intro l K un w Stop St hd d;have hc:=St.clear;refine Br.b8 (λd=>?_) _;refine Br.b8 (λd=>?_) _;refine Br.b9 (λd=>?_) _;simp only [Br.rz,Br.ix,Nat.reduceAdd];(iterate 3(refine Br.mo rfl rfl λd K' hK=>?_;go_simp;refine hK _ _ ⟨rfl,?_⟩;clear hK K'));refine Br.mo rfl rfl λd K' hK=>?_;have e10:(w.at d).cell? ⟨C.o.bo,10,none⟩=some free:=St.rcell rfl;rw [hv] at e10;go_simp;refine hK _ _ ⟨rfl,?_⟩;clear hK K';(iterate 2(refine Br.mo rfl rfl λd K' hK=>?_;go_simp;refine hK _ _ ⟨rfl,?_⟩;clear hK K'));refine Br.a9 (λd=>?_) _;refine Br.mc rfl (λu=>stepG_cond (t:=false) (by simp [Act.eval])) (λd=>?_) _;simp only [if_false,Bool.false_eq_true];refine Br.mc rfl (λu=>stepG_exit rfl) (λd=>?_) _;refine Br.b8 (λd=>?_) _;refine Br.b9 (λd=>?_) _;simp only [Br.rz,Br.ix,Nat.reduceAdd];refine Br.mo rfl rfl λd K' hK=>?_;go_simp;refine hK _ _ ⟨rfl,?_⟩;clear hK K';refine Br.mc rfl (λu=>k6 rfl rfl (by decide) rfl Tryd.func93 rfl rfl (vs:=#[pO C.o,.int .i64 10]) (by simp [Act.eval]) u) (λd=>?_) _;exact hd _
  refine a1I 10 _ _ _ (λe go'=>?_);rw [M.pure_then,Frame.finish_at];apply d7
  ·intro l K un w Stop St hd d;have hc:=St.clear;go_simp;refine Br.mo rfl rfl λd K' hK=>?_;go_simp;refine hK _ _ ⟨rfl,?_⟩;clear hK K';refine Br.a9 (λd=>?_) _;refine Br.q8 (λd=>?_) _;exact Br.m8 (v:=.int .i64 e) rfl rfl Tryd.func81 (resultsC_tmp (t:=8) rfl _) hd _
   done
  exact N9 hb (hn e [] H free go' hF0 hH)
 intro f
 induction f with
 | zero =>
  intro xs H free a b c hl hF hH go j9 j10 j11 j12 j13 j14 j15 j16 j17 j18 j19 j20 j21 j22 j23 j24 j25 j26 j27 j28 j29 j30 j31 j32 j33 j34 j35 j36 j37 j38 j39 j40 j41 j42 j43 j44 j45 j46 j47;obtain rfl:xs=[]:=List.length_eq_zero_iff.1 (by omega);exact nil0 H free a b c hF hH go j9 j10 j11 j12 j13 j14 j15 j16 j17 j18 j19 j20 j21 j22 j23 j24 j25 j26 j27 j28 j29 j30 j31 j32 j33 j34 j35 j36 j37 j38 j39 j40 j41 j42 j43 j44 j45 j46 j47
 | succ f ih =>
  intro xs H free a b c hl hF hH go j9 j10 j11 j12 j13 j14 j15 j16 j17 j18 j19 j20 j21 j22 j23 j24 j25 j26 j27 j28 j29 j30 j31 j32 j33 j34 j35 j36 j37 j38 j39 j40 j41 j42 j43 j44 j45 j46 j47
  cases xs with
  | nil=>exact nil0 H free a b c hF hH go j9 j10 j11 j12 j13 j14 j15 j16 j17 j18 j19 j20 j21 j22 j23 j24 j25 j26 j27 j28 j29 j30 j31 j32 j33 j34 j35 j36 j37 j38 j39 j40 j41 j42 j43 j44 j45 j46 j47
  | cons x r =>
  have hF0:=hF;obtain ⟨sl,h1,h2,h3,h4⟩:=hF;obtain ⟨bq,cq,tq,g1,g2,g3,g4⟩:=h4.2.resolve_left (by rw [h3];simp);have hlen:sl.xs.length=r.length+1:=by rw [h3];simp
  have hle:=h4.1;have hv:free=.slice (some ⟨bq,0,none⟩) (r.length+1) sl.cap:=by rw [h2,Sl.val,g1,h3];simp
  have hq:bq≠bx:=λe=>hb (e▸g2);have hx0:=g4 0 x (by rw [h3];rfl);unfold a1L;rw [M.bind_then];have ihs:=ih;unfold Q9 at ihs ⊢;simp only [Tryd.f81,pO] at ihs ⊢;have hpos:((0:Int)<((r.length+1:Nat):Int)):=by omega
  apply b0q (b:=bx) (c:=#[.int .i64 a,.int .i64 b,.int .i64 c]) (t:=33) (List.mem_cons_self ..) (w9.set_same _ _ _) 1 (.int .i64 x)
  ·intro l K un w Stop St hz hd d;have hc:=St.clear;refine Br.b8 (λd=>?_) _;refine Br.b8 (λd=>?_) _;refine Br.b9 (λd=>?_) _;simp only [Br.rz,Br.ix,Nat.reduceAdd];(iterate 3(refine Br.mo rfl rfl λd K' hK=>?_;go_simp;refine hK _ _ ⟨rfl,?_⟩;clear hK K'));refine Br.mo rfl rfl λd K' hK=>?_;have e10:(w.at d).cell? ⟨C.o.bo,10,none⟩=some free:=St.rcell rfl;rw [hv] at e10;go_simp;refine hK _ _ ⟨rfl,?_⟩;clear hK K';(iterate 2(refine Br.mo rfl rfl λd K' hK=>?_;go_simp;refine hK _ _ ⟨rfl,?_⟩;clear hK K'));refine Br.a9 (λd=>?_) _;refine Br.mc rfl (λu=>stepG_cond (t:=true) (by simp [Act.eval])) (λd=>?_) _;simp only [if_true];refine Br.l9 (λd=>?_) _;refine Br.mc rfl (λu=>stepG_block) (λd=>?_) _;refine Br.b8 (λd=>?_) _;refine Br.b9 (λd=>?_) _;simp only [Br.rz,Br.ix,Nat.reduceAdd];(iterate 4(refine Br.mo rfl rfl λd K' hK=>?_;go_simp;refine hK _ _ ⟨rfl,?_⟩;clear hK K'));refine Br.mo rfl rfl λd K' hK=>?_;have e10:(w.at d).cell? ⟨C.o.bo,10,none⟩=some free:=St.rcell rfl;rw [hv] at e10;go_simp;refine hK _ _ ⟨rfl,?_⟩;clear hK K';refine Br.mo rfl rfl λd K' hK=>?_;go_simp;refine hK _ _ ⟨rfl,?_⟩;clear hK K';refine Br.mo rfl rfl λd K' hK=>?_;have eq0:(w.at d).cell? ⟨bq,0,none⟩=some (.int .i64 x):=St.cell (List.mem_cons_of_mem _ g2) (by rw [w9.set_other _ _ hq];exact g3) hx0;go_simp;refine hK _ _ ⟨rfl,?_⟩;clear hK K';refine Br.mo rfl rfl λd K' hK=>?_;go_simp;refine hK _ _ ⟨rfl,?_⟩;clear hK K';refine Br.t8 rfl rfl (by decide) (λd K' hK=>?_) _;have ep:(w.at d).cell? ⟨bx,1,none⟩=some (.int .i64 b):=St.cell (List.mem_cons_self ..) (w9.set_same _ _ _) rfl;have ez:(w.at d).frozen? ⟨bx,1,none⟩=false:=by
    have:=St.blk (List.mem_cons_self ..);rw [w9.set_same] at this;show w.frozen? _=false;simp [World.frozen?,this]
   go_simp;refine hK _ _ ⟨Br.Q7 (by rw [hz];exact Nat.zero_le _) (World.block_lt_of_cell? _ _ ep) (λe he=>?_),?_⟩
   ·have hm:=mem_listed he;simp only [go_sem] at hm;have ep':w.cell? ⟨bx,1,none⟩=some (.int .i64 b):=ep;have ez':w.frozen? ⟨bx,1,none⟩=false:=ez;simp [go_sem,ep',ez'] at hm;exact hm
   clear hK K' ep ez;exact hd _
  rw [w9.set_set,show (#[.int .i64 a,.int .i64 b,.int .i64 c]:Array Value).setIfInBounds 1 (.int .i64 x)=#[.int .i64 a,.int .i64 x,.int .i64 c] from rfl];apply d7
  ·intro l K un w Stop St hd d;have hc:=St.clear;refine Br.a9 (λd=>?_) _;refine Br.b8 (λd=>?_) _;refine Br.b9 (λd=>?_) _;simp only [Br.rz,Br.ix,Nat.reduceAdd];(iterate 2(refine Br.mo rfl rfl λd K' hK=>?_;go_simp;refine hK _ _ ⟨rfl,?_⟩;clear hK K'));refine Br.mo rfl rfl λd K' hK=>?_;have e0:(w.at d).cell? ⟨bx,0,none⟩=some (.int .i64 a):=St.cell (List.mem_cons_self ..) (w9.set_same _ _ _) rfl;have e1:(w.at d).cell? ⟨bx,1,none⟩=some (.int .i64 x):=St.cell (List.mem_cons_self ..) (w9.set_same _ _ _) rfl;have e2:(w.at d).cell? ⟨bx,2,none⟩=some (.int .i64 c):=St.cell (List.mem_cons_self ..) (w9.set_same _ _ _) rfl;go_simp;refine hK _ _ ⟨rfl,?_⟩;clear hK K';refine Br.mc rfl (λu=>k6 rfl rfl (by decide) rfl Tryd.func84 rfl rfl (vs:=B7 C.o num a x c) (by simp [Act.eval]) u) (λd=>?_) _;exact hd _
  refine N8 num a x c _ _ _ (λz e go' hg=>?_);rw [Frame.finish_at];apply d7
  ·intro l K un w Stop St hd d;have hc:=St.clear;go_simp;(iterate 5(refine Br.mo rfl rfl λd K' hK=>?_;go_simp;refine hK _ _ ⟨rfl,?_⟩;clear hK K'));refine Br.a9 (λd=>?_) _;refine Br.b8 (λd=>?_) _;refine Br.b8 (λd=>?_) _;refine Br.b9 (λd=>?_) _;simp only [Br.rz,Br.ix,Nat.reduceAdd];exact hd _
  by_cases e0:e=0
  ·subst e0;rw [if_neg (show ¬ ((0:Int)=5) by decide),if_pos rfl,M.pure_then];apply d7
   ·intro l K un w Stop St hd d;have hc:=St.clear;(iterate 3(refine Br.mo rfl rfl λd K' hK=>?_;go_simp;refine hK _ _ ⟨rfl,?_⟩;clear hK K'));refine Br.mc rfl (λu=>stepG_unwanted rfl rfl) (λd=>?_) _;go_simp;refine Br.mc rfl (λu=>stepG_unwanted rfl rfl) (λd=>?_) _;go_simp;refine Br.mo rfl rfl λd K' hK=>?_;go_simp;refine hK _ _ ⟨rfl,?_⟩;clear hK K';refine Br.a9 (λd=>?_) _;refine Br.mc rfl (λu=>stepG_cond (t:=true) rfl) (λd=>?_) _;simp only [if_true,if_false,Bool.false_eq_true,↓reduceIte];refine Br.b9 (λd=>?_) _;simp only [Br.rz,Br.ix,Nat.reduceAdd];(iterate 4(refine Br.mo rfl rfl λd K' hK=>?_;go_simp;refine hK _ _ ⟨rfl,?_⟩;clear hK K'));refine Br.mc rfl (λu=>k6 rfl rfl (by decide) rfl Tryd.func94 rfl rfl (vs:=#[.iface 129 (.pointer (some ⟨C.o.bo,10,none⟩))]) (by simp [Act.eval]) u) (λd=>?_) _;exact hd _
   refine a4i hspec (Fr.more (X:=A9 a x c) hb hF0) (by simp) _ _ (λH' free' v hF' hH'=>?_);have hbH:H' bx=A9 a x c:=by rw [hH' bx (List.mem_cons_self ..) (Ne.symm hbf),w9.set_same]
   have hset:H'=H'.set bx (A9 a x c):=(w9.set_self H' hbH).symm;have hL:=Fr.less hbf hF';have hHH:∀ i∈pv,some i≠fb->H' i=H0 i:=λi hi hf=>by rw [hH' i (List.mem_cons_of_mem _ hi) hf,w9.set_other _ _ (λe=>hb (by rw [← e];exact hi))];exact hH i hi hf
   rw [Frame.finish_at];rw [hset];apply d7
   ·intro l K un w Stop St hd d;have hc:=St.clear;go_simp;refine Br.a9 (λd=>?_) _;refine Br.b8 (λd=>?_) _;refine Br.b9 (λd=>?_) _;simp only [Br.rz,Br.ix,Nat.reduceAdd];(iterate 2(refine Br.mo rfl rfl λd K' hK=>?_;go_simp;refine hK _ _ ⟨rfl,?_⟩;clear hK K'));refine Br.a9 (λd=>?_) _;refine Br.mc rfl (λu=>stepG_cond (t:=true) rfl) (λd=>?_) _;simp only [if_true,if_false,Bool.false_eq_true,↓reduceIte];refine Br.b8 (λd=>?_) _;refine Br.b9 (λd=>?_) _;simp only [Br.rz,Br.ix,Nat.reduceAdd];(iterate 2(refine Br.mo rfl rfl λd K' hK=>?_;go_simp;refine hK _ _ ⟨rfl,?_⟩;clear hK K'));refine Br.a9 (λd=>?_) _;refine Br.q8 (λd=>?_) _;exact Br.m8 (v:=.int .i64 0) rfl rfl Tryd.func81 (resultsC_tmp (t:=8) rfl _) hd _
    done
   exact N9 hb (hn 0 (K8 (x::r)) H' free' go' hL hHH)
  by_cases e5:e=5
  ·subst e5;rw [if_pos rfl];apply d7
   ·intro l K un w Stop St hd d;have hc:=St.clear;(iterate 6(refine Br.mo rfl rfl λd K' hK=>?_;go_simp;refine hK _ _ ⟨rfl,?_⟩;clear hK K'));refine Br.a9 (λd=>?_) _;refine Br.mc rfl (λu=>stepG_cond (t:=true) rfl) (λd=>?_) _;simp only [if_true,if_false,Bool.false_eq_true,↓reduceIte];refine Br.b9 (λd=>?_) _;simp only [Br.rz,Br.ix,Nat.reduceAdd];(iterate 4(refine Br.mo rfl rfl λd K' hK=>?_;go_simp;refine hK _ _ ⟨rfl,?_⟩;clear hK K'));refine Br.mc rfl (λu=>k6 rfl rfl (by decide) rfl Tryd.func94 rfl rfl (vs:=#[.iface 129 (.pointer (some ⟨C.o.bo,10,none⟩))]) (by simp [Act.eval]) u) (λd=>?_) _;exact hd _
   refine a4i hspec (Fr.more (X:=A9 a x c) hb hF0) (by simp) _ _ (λH' free' v hF' hH'=>?_);have hbH:H' bx=A9 a x c:=by rw [hH' bx (List.mem_cons_self ..) (Ne.symm hbf),w9.set_same]
   have hset:H'=H'.set bx (A9 a x c):=(w9.set_self H' hbH).symm;have hL:=Fr.less hbf hF';have hHH:∀ i∈pv,some i≠fb->H' i=H0 i:=λi hi hf=>by rw [hH' i (List.mem_cons_of_mem _ hi) hf,w9.set_other _ _ (λe=>hb (by rw [← e];exact hi))];exact hH i hi hf
   rw [Frame.finish_at];rw [hset];apply d7
   ·intro l K un w Stop St hd d;have hc:=St.clear;go_simp;refine Br.a9 (λd=>?_) _;refine Br.b8 (λd=>?_) _;refine Br.b9 (λd=>?_) _;simp only [Br.rz,Br.ix,Nat.reduceAdd];(iterate 2(refine Br.mo rfl rfl λd K' hK=>?_;go_simp;refine hK _ _ ⟨rfl,?_⟩;clear hK K'));refine Br.a9 (λd=>?_) _;refine Br.mc rfl (λu=>stepG_cond (t:=false) rfl) (λd=>?_) _;simp only [if_true,if_false,Bool.false_eq_true,↓reduceIte];refine Br.l9 (λd=>?_) _;refine Br.mc rfl (λu=>stepG_inBlock) (λd=>?_) _;refine Br.mc rfl (λu=>stepG_inLoop) (λd=>?_) _;exact hd _
   exact ihs (K8 (x::r)) H' free' a x c (by have:=hpl (x::r) (by simp);simp only [List.length_cons] at *;omega) hL hHH go' _ _ _ _ _ _ _ _ _ _ _ _ _ _ _ _ _ _ _ _ _ _ _ _ _ _ _ _ _ _ _ _ _ _ _ _ _ _ _
  have he0:(e == 0)=false:=by simp [e0]
  have he5:(e == 5)=false:=by simp [e5]
  have hne5:(e != 5)=true:=by simp [e5]
  rw [if_neg e5,if_neg e0,M.pure_then];apply d7
  ·intro l K un w Stop St hd d;have hc:=St.clear;(iterate 6(refine Br.mo rfl rfl λd K' hK=>?_;go_simp;refine hK _ _ ⟨rfl,?_⟩;clear hK K'));refine Br.a9 (λd=>?_) _;refine Br.mc rfl (λu=>stepG_cond (t:=false) rfl) (λd=>?_) _;simp only [if_true,if_false,Bool.false_eq_true,↓reduceIte];refine Br.l9 (λd=>?_) _;refine Br.b8 (λd=>?_) _;refine Br.b9 (λd=>?_) _;simp only [Br.rz,Br.ix,Nat.reduceAdd];(iterate 2(refine Br.mo rfl rfl λd K' hK=>?_;go_simp;refine hK _ _ ⟨rfl,?_⟩;clear hK K'));refine Br.a9 (λd=>?_) _;refine Br.mc rfl (λu=>stepG_cond (t:=true) rfl) (λd=>?_) _;simp only [if_true,if_false,Bool.false_eq_true,↓reduceIte];refine Br.b8 (λd=>?_) _;refine Br.b9 (λd=>?_) _;simp only [Br.rz,Br.ix,Nat.reduceAdd];(iterate 2(refine Br.mo rfl rfl λd K' hK=>?_;go_simp;refine hK _ _ ⟨rfl,?_⟩;clear hK K'));refine Br.a9 (λd=>?_) _;refine Br.q8 (λd=>?_) _;exact Br.m8 (v:=.int .i64 e) rfl rfl Tryd.func81 (resultsC_tmp (t:=8) rfl _) hd _
   done
  exact N9 hb (hn e (x::r) H free go' hF0 hH)
def a3x (num:Int):Nat->(a b c:Int)->List Int->M (Int × List Int)
 | 0,_,_,_,xs=>(T0 10).bind λe=>M.pure (e,xs)
 | f+1,a,b,c,xs=>match xs with
  | []=>(T0 10).bind λe=>M.pure (e,[])
  | x::r=>(V3 num a b x).bind λz=>if z.2=5 then a3x num f a b x (K8 (x::r)) else M.pure (z.2,if z.2=0 then K8 (x::r) else x::r)
theorem b1H (hspec:Z8)(hpl:∀ xs:List Int,xs≠[]->(K8 xs).length=xs.length - 1)(num:Int)(y2:Value)(fb:Option Nat)(fr:Frame)(cs:List Frame)(k:Int × List Int->Bool->q7)(bx:Nat)(hb:bx ∉ pv)(hbf:fb≠some bx)(H0:w9)
  (hn:∀ e xs' H' free' go',Fr fb pv H' free' xs'->(∀ i∈pv,some i≠fb->H' i=H0 i)->o9 C n (k (e,xs') go') pv H' free' go' (G (fr.finish (.int .i64 e)) cs)) :
  ∀ (f:Nat) (xs:List Int) (H:w9) (free:Value) (a b c:Int),xs.length<=f->Fr fb pv H free xs->(∀ i∈pv,some i≠fb->H i=H0 i)->∀ (go:Bool) (j9 j10 j11 j12 j13 j14 j15 j16 j17 j18 j19 j20 j21 j22 j23 j24 j25 j26 j27 j28 j29 j30 j31 j32 j33 j34 j35 j36 j37 j38 j39 j40 j41 j42 j43 j44 j45 j46 j47:Value),
  o9 C n ((a3x num f a b c xs).then go k) (bx::pv) (H.set bx (A9 a b c)) free go (G ((base 81).at ⟨#[pO C.o,.int .i64 num,y2,.int .i64 2,undef,undef,.pointer (some ⟨bx,0,none⟩),undef,.int .i64 0,j9,j10,j11,j12,j13,j14,j15,j16,j17,j18,j19,j20,j21,j22,j23,j24,j25,j26,j27,j28,j29,j30,j31,j32,j33,j34,j35,j36,j37,j38,j39,j40,j41,j42,j43,j44,j45,j46,j47],[]⟩ Q9) (fr::cs)):=by
 have nil0:∀ (H:w9) (free:Value) (a b c:Int),Fr fb pv H free []->(∀ i∈pv,some i≠fb->H i=H0 i)->∀ (go:Bool) (j9 j10 j11 j12 j13 j14 j15 j16 j17 j18 j19 j20 j21 j22 j23 j24 j25 j26 j27 j28 j29 j30 j31 j32 j33 j34 j35 j36 j37 j38 j39 j40 j41 j42 j43 j44 j45 j46 j47:Value),
   o9 C n (((T0 10).bind λe=>M.pure (e,([]:List Int))).then go k) (bx::pv) (H.set bx (A9 a b c)) free go (G ((base 81).at ⟨#[pO C.o,.int .i64 num,y2,.int .i64 2,undef,undef,.pointer (some ⟨bx,0,none⟩),undef,.int .i64 0,j9,j10,j11,j12,j13,j14,j15,j16,j17,j18,j19,j20,j21,j22,j23,j24,j25,j26,j27,j28,j29,j30,j31,j32,j33,j34,j35,j36,j37,j38,j39,j40,j41,j42,j43,j44,j45,j46,j47],[]⟩ Q9) (fr::cs)):=by
  intro H free a b c hF hH go j9 j10 j11 j12 j13 j14 j15 j16 j17 j18 j19 j20 j21 j22 j23 j24 j25 j26 j27 j28 j29 j30 j31 j32 j33 j34 j35 j36 j37 j38 j39 j40 j41 j42 j43 j44 j45 j46 j47;have hF0:=hF;obtain ⟨sl,h1,h2,h3,h4⟩:=hF;have hv:free=.slice (sl.blk.map (⟨·,0,none⟩)) 0 sl.cap:=by rw [h2,Sl.val,h3];rfl
  rw [M.bind_then];unfold Q9;simp only [Tryd.f81,pO];apply d7
  ·intro l K un w Stop St hd d;have hc:=St.clear;refine Br.b8 (λd=>?_) _;refine Br.b8 (λd=>?_) _;refine Br.b9 (λd=>?_) _;simp only [Br.rz,Br.ix,Nat.reduceAdd];(iterate 3(refine Br.mo rfl rfl λd K' hK=>?_;go_simp;refine hK _ _ ⟨rfl,?_⟩;clear hK K'));refine Br.mo rfl rfl λd K' hK=>?_;have e10:(w.at d).cell? ⟨C.o.bo,10,none⟩=some free:=St.rcell rfl;rw [hv] at e10;go_simp;refine hK _ _ ⟨rfl,?_⟩;clear hK K';(iterate 2(refine Br.mo rfl rfl λd K' hK=>?_;go_simp;refine hK _ _ ⟨rfl,?_⟩;clear hK K'));refine Br.a9 (λd=>?_) _;refine Br.mc rfl (λu=>stepG_cond (t:=false) (by simp [Act.eval])) (λd=>?_) _;simp only [if_false,Bool.false_eq_true];refine Br.mc rfl (λu=>stepG_exit rfl) (λd=>?_) _;refine Br.b8 (λd=>?_) _;refine Br.b9 (λd=>?_) _;simp only [Br.rz,Br.ix,Nat.reduceAdd];refine Br.mo rfl rfl λd K' hK=>?_;go_simp;refine hK _ _ ⟨rfl,?_⟩;clear hK K';refine Br.mc rfl (λu=>k6 rfl rfl (by decide) rfl Tryd.func93 rfl rfl (vs:=#[pO C.o,.int .i64 10]) (by simp [Act.eval]) u) (λd=>?_) _;exact hd _
  refine a1I 10 _ _ _ (λe go'=>?_);rw [M.pure_then,Frame.finish_at];apply d7
  ·intro l K un w Stop St hd d;have hc:=St.clear;go_simp;refine Br.mo rfl rfl λd K' hK=>?_;go_simp;refine hK _ _ ⟨rfl,?_⟩;clear hK K';refine Br.a9 (λd=>?_) _;refine Br.q8 (λd=>?_) _;exact Br.m8 (v:=.int .i64 e) rfl rfl Tryd.func81 (resultsC_tmp (t:=8) rfl _) hd _
   done
  exact N9 hb (hn e [] H free go' hF0 hH)
 intro f
 induction f with
 | zero =>
  intro xs H free a b c hl hF hH go j9 j10 j11 j12 j13 j14 j15 j16 j17 j18 j19 j20 j21 j22 j23 j24 j25 j26 j27 j28 j29 j30 j31 j32 j33 j34 j35 j36 j37 j38 j39 j40 j41 j42 j43 j44 j45 j46 j47;obtain rfl:xs=[]:=List.length_eq_zero_iff.1 (by omega);exact nil0 H free a b c hF hH go j9 j10 j11 j12 j13 j14 j15 j16 j17 j18 j19 j20 j21 j22 j23 j24 j25 j26 j27 j28 j29 j30 j31 j32 j33 j34 j35 j36 j37 j38 j39 j40 j41 j42 j43 j44 j45 j46 j47
 | succ f ih =>
  intro xs H free a b c hl hF hH go j9 j10 j11 j12 j13 j14 j15 j16 j17 j18 j19 j20 j21 j22 j23 j24 j25 j26 j27 j28 j29 j30 j31 j32 j33 j34 j35 j36 j37 j38 j39 j40 j41 j42 j43 j44 j45 j46 j47
  cases xs with
  | nil=>exact nil0 H free a b c hF hH go j9 j10 j11 j12 j13 j14 j15 j16 j17 j18 j19 j20 j21 j22 j23 j24 j25 j26 j27 j28 j29 j30 j31 j32 j33 j34 j35 j36 j37 j38 j39 j40 j41 j42 j43 j44 j45 j46 j47
  | cons x r =>
  have hF0:=hF;obtain ⟨sl,h1,h2,h3,h4⟩:=hF;obtain ⟨bq,cq,tq,g1,g2,g3,g4⟩:=h4.2.resolve_left (by rw [h3];simp);have hlen:sl.xs.length=r.length+1:=by rw [h3];simp
  have hle:=h4.1;have hv:free=.slice (some ⟨bq,0,none⟩) (r.length+1) sl.cap:=by rw [h2,Sl.val,g1,h3];simp
  have hq:bq≠bx:=λe=>hb (e▸g2);have hx0:=g4 0 x (by rw [h3];rfl);unfold a3x;rw [M.bind_then];have ihs:=ih;unfold Q9 at ihs ⊢;simp only [Tryd.f81,pO] at ihs ⊢;have hpos:((0:Int)<((r.length+1:Nat):Int)):=by omega
  apply b0q (b:=bx) (c:=#[.int .i64 a,.int .i64 b,.int .i64 c]) (t:=33) (List.mem_cons_self ..) (w9.set_same _ _ _) 2 (.int .i64 x)
  ·intro l K un w Stop St hz hd d;have hc:=St.clear;refine Br.b8 (λd=>?_) _;refine Br.b8 (λd=>?_) _;refine Br.b9 (λd=>?_) _;simp only [Br.rz,Br.ix,Nat.reduceAdd];(iterate 3(refine Br.mo rfl rfl λd K' hK=>?_;go_simp;refine hK _ _ ⟨rfl,?_⟩;clear hK K'));refine Br.mo rfl rfl λd K' hK=>?_;have e10:(w.at d).cell? ⟨C.o.bo,10,none⟩=some free:=St.rcell rfl;rw [hv] at e10;go_simp;refine hK _ _ ⟨rfl,?_⟩;clear hK K';(iterate 2(refine Br.mo rfl rfl λd K' hK=>?_;go_simp;refine hK _ _ ⟨rfl,?_⟩;clear hK K'));refine Br.a9 (λd=>?_) _;refine Br.mc rfl (λu=>stepG_cond (t:=true) (by simp [Act.eval])) (λd=>?_) _;simp only [if_true];refine Br.l9 (λd=>?_) _;refine Br.mc rfl (λu=>stepG_block) (λd=>?_) _;refine Br.b8 (λd=>?_) _;refine Br.b9 (λd=>?_) _;simp only [Br.rz,Br.ix,Nat.reduceAdd];(iterate 4(refine Br.mo rfl rfl λd K' hK=>?_;go_simp;refine hK _ _ ⟨rfl,?_⟩;clear hK K'));refine Br.mo rfl rfl λd K' hK=>?_;have e10:(w.at d).cell? ⟨C.o.bo,10,none⟩=some free:=St.rcell rfl;rw [hv] at e10;go_simp;refine hK _ _ ⟨rfl,?_⟩;clear hK K';refine Br.mo rfl rfl λd K' hK=>?_;go_simp;refine hK _ _ ⟨rfl,?_⟩;clear hK K';refine Br.mo rfl rfl λd K' hK=>?_;have eq0:(w.at d).cell? ⟨bq,0,none⟩=some (.int .i64 x):=St.cell (List.mem_cons_of_mem _ g2) (by rw [w9.set_other _ _ hq];exact g3) hx0;go_simp;refine hK _ _ ⟨rfl,?_⟩;clear hK K';refine Br.mo rfl rfl λd K' hK=>?_;go_simp;refine hK _ _ ⟨rfl,?_⟩;clear hK K';refine Br.t8 rfl rfl (by decide) (λd K' hK=>?_) _;have ep:(w.at d).cell? ⟨bx,2,none⟩=some (.int .i64 c):=St.cell (List.mem_cons_self ..) (w9.set_same _ _ _) rfl;have ez:(w.at d).frozen? ⟨bx,2,none⟩=false:=by
    have:=St.blk (List.mem_cons_self ..);rw [w9.set_same] at this;show w.frozen? _=false;simp [World.frozen?,this]
   go_simp;refine hK _ _ ⟨Br.Q7 (by rw [hz];exact Nat.zero_le _) (World.block_lt_of_cell? _ _ ep) (λe he=>?_),?_⟩
   ·have hm:=mem_listed he;simp only [go_sem] at hm;have ep':w.cell? ⟨bx,2,none⟩=some (.int .i64 c):=ep;have ez':w.frozen? ⟨bx,2,none⟩=false:=ez;simp [go_sem,ep',ez'] at hm;exact hm
   clear hK K' ep ez;exact hd _
  rw [w9.set_set,show (#[.int .i64 a,.int .i64 b,.int .i64 c]:Array Value).setIfInBounds 2 (.int .i64 x)=#[.int .i64 a,.int .i64 b,.int .i64 x] from rfl];apply d7
  ·intro l K un w Stop St hd d;have hc:=St.clear;refine Br.a9 (λd=>?_) _;refine Br.b8 (λd=>?_) _;refine Br.b9 (λd=>?_) _;simp only [Br.rz,Br.ix,Nat.reduceAdd];(iterate 2(refine Br.mo rfl rfl λd K' hK=>?_;go_simp;refine hK _ _ ⟨rfl,?_⟩;clear hK K'));refine Br.mo rfl rfl λd K' hK=>?_;have e0:(w.at d).cell? ⟨bx,0,none⟩=some (.int .i64 a):=St.cell (List.mem_cons_self ..) (w9.set_same _ _ _) rfl;have e1:(w.at d).cell? ⟨bx,1,none⟩=some (.int .i64 b):=St.cell (List.mem_cons_self ..) (w9.set_same _ _ _) rfl;have e2:(w.at d).cell? ⟨bx,2,none⟩=some (.int .i64 x):=St.cell (List.mem_cons_self ..) (w9.set_same _ _ _) rfl;go_simp;refine hK _ _ ⟨rfl,?_⟩;clear hK K';refine Br.mc rfl (λu=>k6 rfl rfl (by decide) rfl Tryd.func84 rfl rfl (vs:=B7 C.o num a b x) (by simp [Act.eval]) u) (λd=>?_) _;exact hd _
  refine N8 num a b x _ _ _ (λz e go' hg=>?_);rw [Frame.finish_at];apply d7
  ·intro l K un w Stop St hd d;have hc:=St.clear;go_simp;(iterate 5(refine Br.mo rfl rfl λd K' hK=>?_;go_simp;refine hK _ _ ⟨rfl,?_⟩;clear hK K'));refine Br.a9 (λd=>?_) _;refine Br.b8 (λd=>?_) _;refine Br.b8 (λd=>?_) _;refine Br.b9 (λd=>?_) _;simp only [Br.rz,Br.ix,Nat.reduceAdd];exact hd _
  by_cases e0:e=0
  ·subst e0;rw [if_neg (show ¬ ((0:Int)=5) by decide),if_pos rfl,M.pure_then];apply d7
   ·intro l K un w Stop St hd d;have hc:=St.clear;(iterate 3(refine Br.mo rfl rfl λd K' hK=>?_;go_simp;refine hK _ _ ⟨rfl,?_⟩;clear hK K'));refine Br.mc rfl (λu=>stepG_unwanted rfl rfl) (λd=>?_) _;go_simp;refine Br.mc rfl (λu=>stepG_unwanted rfl rfl) (λd=>?_) _;go_simp;refine Br.mo rfl rfl λd K' hK=>?_;go_simp;refine hK _ _ ⟨rfl,?_⟩;clear hK K';refine Br.a9 (λd=>?_) _;refine Br.mc rfl (λu=>stepG_cond (t:=true) rfl) (λd=>?_) _;simp only [if_true,if_false,Bool.false_eq_true,↓reduceIte];refine Br.b9 (λd=>?_) _;simp only [Br.rz,Br.ix,Nat.reduceAdd];(iterate 4(refine Br.mo rfl rfl λd K' hK=>?_;go_simp;refine hK _ _ ⟨rfl,?_⟩;clear hK K'));refine Br.mc rfl (λu=>k6 rfl rfl (by decide) rfl Tryd.func94 rfl rfl (vs:=#[.iface 129 (.pointer (some ⟨C.o.bo,10,none⟩))]) (by simp [Act.eval]) u) (λd=>?_) _;exact hd _
   refine a4i hspec (Fr.more (X:=A9 a b x) hb hF0) (by simp) _ _ (λH' free' v hF' hH'=>?_);have hbH:H' bx=A9 a b x:=by rw [hH' bx (List.mem_cons_self ..) (Ne.symm hbf),w9.set_same]
   have hset:H'=H'.set bx (A9 a b x):=(w9.set_self H' hbH).symm;have hL:=Fr.less hbf hF';have hHH:∀ i∈pv,some i≠fb->H' i=H0 i:=λi hi hf=>by rw [hH' i (List.mem_cons_of_mem _ hi) hf,w9.set_other _ _ (λe=>hb (by rw [← e];exact hi))];exact hH i hi hf
   rw [Frame.finish_at];rw [hset];apply d7
   ·intro l K un w Stop St hd d;have hc:=St.clear;go_simp;refine Br.a9 (λd=>?_) _;refine Br.b8 (λd=>?_) _;refine Br.b9 (λd=>?_) _;simp only [Br.rz,Br.ix,Nat.reduceAdd];(iterate 2(refine Br.mo rfl rfl λd K' hK=>?_;go_simp;refine hK _ _ ⟨rfl,?_⟩;clear hK K'));refine Br.a9 (λd=>?_) _;refine Br.mc rfl (λu=>stepG_cond (t:=true) rfl) (λd=>?_) _;simp only [if_true,if_false,Bool.false_eq_true,↓reduceIte];refine Br.b8 (λd=>?_) _;refine Br.b9 (λd=>?_) _;simp only [Br.rz,Br.ix,Nat.reduceAdd];(iterate 2(refine Br.mo rfl rfl λd K' hK=>?_;go_simp;refine hK _ _ ⟨rfl,?_⟩;clear hK K'));refine Br.a9 (λd=>?_) _;refine Br.q8 (λd=>?_) _;exact Br.m8 (v:=.int .i64 0) rfl rfl Tryd.func81 (resultsC_tmp (t:=8) rfl _) hd _
    done
   exact N9 hb (hn 0 (K8 (x::r)) H' free' go' hL hHH)
  by_cases e5:e=5
  ·subst e5;rw [if_pos rfl];apply d7
   ·intro l K un w Stop St hd d;have hc:=St.clear;(iterate 6(refine Br.mo rfl rfl λd K' hK=>?_;go_simp;refine hK _ _ ⟨rfl,?_⟩;clear hK K'));refine Br.a9 (λd=>?_) _;refine Br.mc rfl (λu=>stepG_cond (t:=true) rfl) (λd=>?_) _;simp only [if_true,if_false,Bool.false_eq_true,↓reduceIte];refine Br.b9 (λd=>?_) _;simp only [Br.rz,Br.ix,Nat.reduceAdd];(iterate 4(refine Br.mo rfl rfl λd K' hK=>?_;go_simp;refine hK _ _ ⟨rfl,?_⟩;clear hK K'));refine Br.mc rfl (λu=>k6 rfl rfl (by decide) rfl Tryd.func94 rfl rfl (vs:=#[.iface 129 (.pointer (some ⟨C.o.bo,10,none⟩))]) (by simp [Act.eval]) u) (λd=>?_) _;exact hd _
   refine a4i hspec (Fr.more (X:=A9 a b x) hb hF0) (by simp) _ _ (λH' free' v hF' hH'=>?_);have hbH:H' bx=A9 a b x:=by rw [hH' bx (List.mem_cons_self ..) (Ne.symm hbf),w9.set_same]
   have hset:H'=H'.set bx (A9 a b x):=(w9.set_self H' hbH).symm;have hL:=Fr.less hbf hF';have hHH:∀ i∈pv,some i≠fb->H' i=H0 i:=λi hi hf=>by rw [hH' i (List.mem_cons_of_mem _ hi) hf,w9.set_other _ _ (λe=>hb (by rw [← e];exact hi))];exact hH i hi hf
   rw [Frame.finish_at];rw [hset];apply d7
   ·intro l K un w Stop St hd d;have hc:=St.clear;go_simp;refine Br.a9 (λd=>?_) _;refine Br.b8 (λd=>?_) _;refine Br.b9 (λd=>?_) _;simp only [Br.rz,Br.ix,Nat.reduceAdd];(iterate 2(refine Br.mo rfl rfl λd K' hK=>?_;go_simp;refine hK _ _ ⟨rfl,?_⟩;clear hK K'));refine Br.a9 (λd=>?_) _;refine Br.mc rfl (λu=>stepG_cond (t:=false) rfl) (λd=>?_) _;simp only [if_true,if_false,Bool.false_eq_true,↓reduceIte];refine Br.l9 (λd=>?_) _;refine Br.mc rfl (λu=>stepG_inBlock) (λd=>?_) _;refine Br.mc rfl (λu=>stepG_inLoop) (λd=>?_) _;exact hd _
   exact ihs (K8 (x::r)) H' free' a b x (by have:=hpl (x::r) (by simp);simp only [List.length_cons] at *;omega) hL hHH go' _ _ _ _ _ _ _ _ _ _ _ _ _ _ _ _ _ _ _ _ _ _ _ _ _ _ _ _ _ _ _ _ _ _ _ _ _ _ _
  have he0:(e == 0)=false:=by simp [e0]
  have he5:(e == 5)=false:=by simp [e5]
  have hne5:(e != 5)=true:=by simp [e5]
  rw [if_neg e5,if_neg e0,M.pure_then];apply d7
  ·intro l K un w Stop St hd d;have hc:=St.clear;(iterate 6(refine Br.mo rfl rfl λd K' hK=>?_;go_simp;refine hK _ _ ⟨rfl,?_⟩;clear hK K'));refine Br.a9 (λd=>?_) _;refine Br.mc rfl (λu=>stepG_cond (t:=false) rfl) (λd=>?_) _;simp only [if_true,if_false,Bool.false_eq_true,↓reduceIte];refine Br.l9 (λd=>?_) _;refine Br.b8 (λd=>?_) _;refine Br.b9 (λd=>?_) _;simp only [Br.rz,Br.ix,Nat.reduceAdd];(iterate 2(refine Br.mo rfl rfl λd K' hK=>?_;go_simp;refine hK _ _ ⟨rfl,?_⟩;clear hK K'));refine Br.a9 (λd=>?_) _;refine Br.mc rfl (λu=>stepG_cond (t:=true) rfl) (λd=>?_) _;simp only [if_true,if_false,Bool.false_eq_true,↓reduceIte];refine Br.b8 (λd=>?_) _;refine Br.b9 (λd=>?_) _;simp only [Br.rz,Br.ix,Nat.reduceAdd];(iterate 2(refine Br.mo rfl rfl λd K' hK=>?_;go_simp;refine hK _ _ ⟨rfl,?_⟩;clear hK K'));refine Br.a9 (λd=>?_) _;refine Br.q8 (λd=>?_) _;exact Br.m8 (v:=.int .i64 e) rfl rfl Tryd.func81 (resultsC_tmp (t:=8) rfl _) hd _
   done
  exact N9 hb (hn e (x::r) H free go' hF0 hH)
noncomputable def a2t:Code:=(Tryd.f81.body).getD .skip
theorem a6D (o:OpD)(x z:Int)(y:Value):Frame.enter Tryd.prog 81 #[pO o,.int .i64 x,y,.int .i64 z] .normal=(base 81).at ⟨#[pO o,.int .i64 x,y,.int .i64 z,undef,undef,undef,undef,undef,undef,undef,undef,undef,undef,undef,undef,undef,undef,undef,undef,undef,undef,undef,undef,undef,undef,undef,undef,undef,undef,undef,undef,undef,undef,undef,undef,undef,undef,undef,undef,undef,undef,undef,undef,undef,undef,undef,undef],[]⟩ [.code a2t]:=by
 rw [enter_at (c:=a2t) _ Tryd.func81 rfl];refine congrArg (λt=>(base 81).at ⟨t,[]⟩ [.code a2t]) ?_
 kernel_rfl
theorem a3y (hspec:Z8)(hpl:∀ xs:List Int,xs≠[]->(K8 xs).length=xs.length - 1){fb:Option Nat}{xs:List Int}(hF:Fr fb pv H free xs)(hfb:∀ b,fb=some b->b∈pv)(num a b c:Int)(fr:Frame)(cs:List Frame)(k:Int × List Int->Bool->q7)
  (hn:∀ e xs' H' free' go',Fr fb pv H' free' xs'->(∀ i∈pv,some i≠fb->H' i=H i)->o9 C n (k (e,xs') go') pv H' free' go' (G (fr.finish (.int .i64 e)) cs)) :
  o9 C n ((a1L num xs.length a b c xs).then go k) pv H free go (G (Frame.enter Tryd.prog 81 #[pO C.o,.int .i64 num,.agg #[.int .i64 a,.int .i64 b,.int .i64 c],.int .i64 1] .normal) (fr::cs)):=by
 have key:=λbx hb hbf=>b1G (C:=C) (n:=n) hspec hpl num (.agg #[.int .i64 a,.int .i64 b,.int .i64 c]) fb fr cs k bx hb hbf H hn xs.length xs H free a b c (Nat.le_refl _) hF (λ_ _ _=>rfl) go;unfold Q9 at key;rw [a6D];simp only [a2t,Tryd.f81,Option.getD_some,pO] at *;apply a0P (X:=A9 a b c) trivial
 ·intro l K un w bx Stop hbx St hd d;have hc:=St.clear;refine Br.b8 (λd=>?_) _;refine Br.b9 (λd=>?_) _;simp only [Br.rz,Br.ix,Nat.reduceAdd];refine Br.t8 rfl rfl (by decide) (λd K' hK=>?_) _;go_simp;refine hK _ _ ⟨Br.L7 (λe he=>?_),?_⟩
  ·have hm:=mem_listed he;simp [go_sem] at hm
  clear hK K';have hc:Clear (w.alloc (A9 a b c)):=(Br.a0K hc.lk (o:=A9 a b c) trivial).1.sight;rw [show (w.at d).alloc (A9 a b c)=(w.alloc (A9 a b c)).at d from rfl];refine Br.mo rfl rfl λd K' hK=>?_;go_simp;refine hK _ _ ⟨rfl,?_⟩;clear hK K';refine Br.a9 (λd=>?_) _;refine Br.b8 (λd=>?_) _;refine Br.mc rfl (λu=>stepG_block) (λd=>?_) _;refine Br.mc rfl (λu=>stepG_loop) (λd=>?_) _;rw [← hbx];exact hd _
 exact λbx hb _=>key bx hb (λe=>hb (hfb bx e)) _ _ _ _ _ _ _ _ _ _ _ _ _ _ _ _ _ _ _ _ _ _ _ _ _ _ _ _ _ _ _ _ _ _ _ _ _ _ _
theorem b1I (hspec:Z8)(hpl:∀ xs:List Int,xs≠[]->(K8 xs).length=xs.length - 1){fb:Option Nat}{xs:List Int}(hF:Fr fb pv H free xs)(hfb:∀ b,fb=some b->b∈pv)(num a b c:Int)(fr:Frame)(cs:List Frame)(k:Int × List Int->Bool->q7)
  (hn:∀ e xs' H' free' go',Fr fb pv H' free' xs'->(∀ i∈pv,some i≠fb->H' i=H i)->o9 C n (k (e,xs') go') pv H' free' go' (G (fr.finish (.int .i64 e)) cs)) :
  o9 C n ((a3x num xs.length a b c xs).then go k) pv H free go (G (Frame.enter Tryd.prog 81 #[pO C.o,.int .i64 num,.agg #[.int .i64 a,.int .i64 b,.int .i64 c],.int .i64 2] .normal) (fr::cs)):=by
 have key:=λbx hb hbf=>b1H (C:=C) (n:=n) hspec hpl num (.agg #[.int .i64 a,.int .i64 b,.int .i64 c]) fb fr cs k bx hb hbf H hn xs.length xs H free a b c (Nat.le_refl _) hF (λ_ _ _=>rfl) go;unfold Q9 at key;rw [a6D];simp only [a2t,Tryd.f81,Option.getD_some,pO] at *;apply a0P (X:=A9 a b c) trivial
 ·intro l K un w bx Stop hbx St hd d;have hc:=St.clear;refine Br.b8 (λd=>?_) _;refine Br.b9 (λd=>?_) _;simp only [Br.rz,Br.ix,Nat.reduceAdd];refine Br.t8 rfl rfl (by decide) (λd K' hK=>?_) _;go_simp;refine hK _ _ ⟨Br.L7 (λe he=>?_),?_⟩
  ·have hm:=mem_listed he;simp [go_sem] at hm
  clear hK K';have hc:Clear (w.alloc (A9 a b c)):=(Br.a0K hc.lk (o:=A9 a b c) trivial).1.sight;rw [show (w.at d).alloc (A9 a b c)=(w.alloc (A9 a b c)).at d from rfl];refine Br.mo rfl rfl λd K' hK=>?_;go_simp;refine hK _ _ ⟨rfl,?_⟩;clear hK K';refine Br.a9 (λd=>?_) _;refine Br.b8 (λd=>?_) _;refine Br.mc rfl (λu=>stepG_block) (λd=>?_) _;refine Br.mc rfl (λu=>stepG_loop) (λd=>?_) _;rw [← hbx];exact hd _
 exact λbx hb _=>key bx hb (λe=>hb (hfb bx e)) _ _ _ _ _ _ _ _ _ _ _ _ _ _ _ _ _ _ _ _ _ _ _ _ _ _ _ _ _ _ _ _ _ _ _ _ _ _ _
end
end Go.Proofs.YtcgabodkegcpgaaDoor
