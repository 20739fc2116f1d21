/- spawn. -/
import Derived.Test.YtcgabodkegcpgaaDoorOpp
import Derived.Test.YtcgabodkegcpgaaDoorSao
import Derived.Test.YtcgabodkegcpgaaDoorPgo
import Derived.Conc.CompanyDraw
import Derived.Deep.MidRow
set_option linter.unusedVariables false
set_option linter.unusedSimpArgs false
set_option maxHeartbeats 20000000
set_option maxRecDepth 100000
namespace Go.Proofs.YtcgabodkegcpgaaDoor
open Go.Conc Go.RowKit
open Br (OpD KO SO SP sfO Lk Fit Must DL Liv Clear)
attribute [local go_sem ↓] Go.wp_at_zero Go.wp_at_succ
def Row (pv:List Nat)(H:w9)(g:Nat)(t:TypeId)(n:Nat)(f:Nat->Value):Prop:=g∈pv/\∃ c,H g=.cells c t (0,0)/\c.size=n/\∀ i,i<n->c[i]?=some (f i)
theorem Row.is {pv:List Nat}{H:w9}{g t n:Nat}{f:Nat->Value}(h:Row pv H g t n f){v:World}(hv:∀ i∈pv,i<v.heap.size/\(Br.Obj.sight (H i)->v.heap[i]?=some (H i))):v.rowIs g t n f:=by
 obtain ⟨h1,c,h2,h3,h4⟩:=h;exact ⟨c,by rw [(hv g h1).2 (by rw [h2];trivial),h2],h3,h4⟩
def Slt (X:Obj)(K:Ker)(i:Nat):Prop:=∃ c t f,X=.cells c t f/\∀ j,j<20->c[j]?=some (o0 K (i*20+j))
theorem b1M {w:World}{b:Nat}{K:Ker}{i:Nat}(h:w.rangeAt b 0 (cut (o0 K) (i*20) 20)):∃ X,w.heap[b]?=some X/\Slt X K i:=by
 have hc:=λj (hj:j<20)=>W3 h hj;have h0:=hc 0 (by omega);simp only [World.cell?] at h0 hc
 cases e:w.heap[b]? with
 | none=>rw [e] at h0;cases h0
 | some X =>
  rw [e] at h0 hc
  cases X with
  | cells c t f=>exact ⟨_,rfl,c,t,f,rfl,λj hj=>by simpa using hc j hj⟩
  | _=>cases h0
section
variable {C:Ctx} {n:Nat} {pv:List Nat} {H:w9} {free:Value} {go:Bool}
noncomputable def b2X:Code :=
 match Tryd.f86.body with
 | some (.seq _ (.seq (.seq _ (.block _ (.loop (.seq _ (.seq _ (.seq (.block _ (.seq r _)) _)))))) _))=>r
 | _=>.skip
theorem b1N {K0:Ker}{gF gS gD sb:Nat}(hK:K0.nS<=32)(hR:Row pv H gS 55 (K0.nS*20) (o0 K0)){i:Nat}(hi:i<K0.nS)(j6 j7 j8 j13 j14 j15 j16 j17 j18 j19 j20 j21 j22 j23 j24 j25 j26 j27 j28:Value)(v:World)(hv:∀ i∈pv,i<v.heap.size/\(Br.Obj.sight (H i)->v.heap[i]?=some (H i))) :
  b2X.wp Tryd.prog (λe a' v'=>e=.normal/\∃ bs Hn,Gain pv H v v' bs Hn/\∃ bx,bs=[bx]/\a'=⟨#[pO C.o,A4 K0 gF gS gD,undef,.pointer (some ⟨sb,0,none⟩),.int .i64 0,.int .i64 0,.int .i64 i,.pointer (some ⟨bx,0,none⟩),j8,.pointer (some ⟨sb,1,none⟩),.slice (some ⟨gS,0,none⟩) K0.nS K0.nS,.int .i64 K0.nS,.int .i64 i,j13,.int .i64 i,.pointer (some ⟨gS,i*20,none⟩),.agg (cut (o0 K0) (i*20) 20).toArray,j17,j18,j19,j20,j21,j22,j23,j24,j25,j26,j27,j28,undef,undef],[]⟩/\Slt (Hn bx) K0 i) ⟨#[pO C.o,A4 K0 gF gS gD,undef,.pointer (some ⟨sb,0,none⟩),.int .i64 0,.int .i64 0,j6,j7,j8,.pointer (some ⟨sb,1,none⟩),.slice (some ⟨gS,0,none⟩) K0.nS K0.nS,.int .i64 K0.nS,.int .i64 i,j13,j14,j15,j16,j17,j18,j19,j20,j21,j22,j23,j24,j25,j26,j27,j28,undef,undef],[]⟩ v:=by
 have hrow:=hR.is hv;have hlt:∀ i∈pv,i<v.heap.size:=λi hi=>(hv i hi).1;obtain ⟨cs,hcs⟩:∃ cs,cs=cut (o0 K0) (i*20) 20:=⟨_,rfl⟩;have ei:Hid ((Tryd.prog.info? 55).map (·.size)=some cs.length):=by unfold Hid;rw [hcs,A5];kernel_rfl
 have ei2:Hid ((Tryd.prog.info? 55).map (·.size)=some cs.toArray.size):=by unfold Hid;rw [List.size_toArray,hcs,A5];kernel_rfl
 have o1:Hid (cs.toArray.all (·.oneCell')=true):=by unfold Hid;rw [hcs];exact a5I K0 _ _
 have z1:Hid (cs.toArray.size=20):=by unfold Hid;rw [List.size_toArray,hcs,A5]
 have LA:Hid (v.rangeAt gS (i*20) cs):=by unfold Hid;rw [hcs];exact y7 hrow (o:=i*20) (m:=20) (by omega)
 rw [← hcs];have Hcs:Hid (cs=cut (o0 K0) (i*20) 20):=hcs;clear hcs;have b1:(0:Int)<=(i:Int):=by omega
 have b2:(i:Int)<(K0.nS:Int):=by omega
 have Hlt:Hid (∀ i∈pv,i<v.heap.size):=hlt;clear hlt hrow hR hv;unfold b2X;simp only [Tryd.f86]
 go_wp2_with (first|(refine wpList_load_mid rfl 55 _ rfl gS (i*20) rfl cs _ LA.out Tryd.underlying55 rfl ei.out ?_)|(refine Q0 rfl 55 _ _ rfl _ 0 cs.toArray rfl rfl (by rw [z1.out];exact a0U _ _ _ _ (by rfl)) ei2.out o1.out ?_;intro W1 f1 f2 f3 f4))
 obtain ⟨X,hX,hS⟩:=b1M (K:=K0) (i:=i) (b:=v.heap.size) (w:=W1) (by rw [← Hcs.out];exact f1);refine ⟨[v.heap.size],λk=>if k=v.heap.size then X else H k,⟨?_,?_,?_,?_⟩,v.heap.size,rfl,rfl,by simpa using hS⟩
 ·rw [f3];simp
 ·intro k hk;rw [f2 k (by omega)];exact Below.heap_alloc _ _ _ hk
 ·intro b hb;obtain rfl:=List.mem_singleton.1 hb;exact ⟨Nat.le_refl _,by simpa using hX⟩
 ·intro i hi;have:=Hlt.out i hi;show (if i=v.heap.size then X else H i)=H i;rw [if_neg (by omega)]
theorem b1O {s:q7}{g:Goroutine}{b:Nat}(hb:b ∉ pv)(h:o9 C n s pv H free go g):o9 C n s ([b] ++ pv) H free go g:=by
 have:=N9 (X:=H b) hb h
 rwa [w9.set_self H rfl] at this
theorem Fr.same {fb:Option Nat}{xs:List Int}{H':w9}(hk:∀ i∈pv,H' i=H i)(h:Fr fb pv H free xs):Fr fb pv H' free xs:=by
 obtain ⟨sl,h1,h2,h3,h4,h5⟩:=h;exact ⟨sl,h1,h2,h3,h4,h5.imp id λ⟨b',c,t,g1,g2,g3,g4⟩=>⟨b',c,t,g1,g2,(hk b' g2).trans g3,g4⟩⟩
theorem Row.same {g t m:Nat}{f:Nat->Value}{H':w9}(h:Row pv H g t m f)(hk:H' g=H g):Row pv H' g t m f:=by
 obtain ⟨h1,c,h2,h3⟩:=h;exact ⟨h1,c,hk.trans h2,h3⟩
def a0n (K0:Ker):Nat->Nat->List Int->M ((Int × Int) × List Int)
 | 0,_,xs=>(T0 10).bind λe=>M.pure ((0,e),xs)
 | f+1,i,xs=>if K0.S i 0=0 then (a1L 5 xs.length i 0 0 xs).bind λz=>if z.1=7 then a0n K0 f (i+1) z.2 else M.pure (((i:Int),z.1),z.2) else a0n K0 f (i+1) xs
noncomputable def a2R:List Item :=
 match Tryd.f86.body with
 | some (.seq _ (.seq (.seq _ (.block i (.loop c))) r))=>[.code c,.inLoop c,.inBlock i,.code r]
 | _=>[]
theorem b1P (hspec:Z8)(hpl:∀ xs:List Int,xs≠[]->(K8 xs).length=xs.length - 1)(K0:Ker)(gF gS gD sb:Nat)(hK:K0.nS<=32)(fb:Option Nat)(hfb:∀ b,fb=some b->b∈pv)(hgf:some gS≠fb)(H0:w9)(hR:Row pv H0 gS 55 (K0.nS*20) (o0 K0))(fr:Frame)(cs:List Frame)(k:(Int × Int) × List Int->Bool->q7)
  (hn:∀ x e xs' H' free' go',Fr fb pv H' free' xs'->(∀ i∈pv,some i≠fb->H' i=H0 i)->o9 C n (k ((x,e),xs') go') pv H' free' go' (G (fr.finish (.tuple #[.int .i64 x,.int .i64 e])) cs)) :
  ∀ (f i:Nat),i+f=K0.nS->∀ (xs:List Int) (H:w9) (free:Value),Fr fb pv H free xs->(∀ i∈pv,some i≠fb->H i=H0 i)->∀ (go:Bool) (j6 j7 j8 j13 j14 j15 j16 j17 j18 j19 j20 j21 j22 j23 j24 j25 j26 j27 j28:Value),
  o9 C n ((a0n K0 f i xs).then go k) pv H free go (G ((base 86).at ⟨#[pO C.o,A4 K0 gF gS gD,undef,.pointer (some ⟨sb,0,none⟩),.int .i64 0,.int .i64 0,j6,j7,j8,.pointer (some ⟨sb,1,none⟩),.slice (some ⟨gS,0,none⟩) K0.nS K0.nS,.int .i64 K0.nS,.int .i64 i,j13,j14,j15,j16,j17,j18,j19,j20,j21,j22,j23,j24,j25,j26,j27,j28,undef,undef],[]⟩ a2R) (fr::cs)):=by
 intro f
 induction f with
 | zero =>
  intro i hi xs H free hF hH go j6 j7 j8 j13 j14 j15 j16 j17 j18 j19 j20 j21 j22 j23 j24 j25 j26 j27 j28;obtain rfl:i=K0.nS:=by omega
  unfold a0n;rw [M.bind_then];unfold a2R;simp only [Tryd.f86,pO];apply d7
  ·intro l K un w Stop St hd d;have hc:=St.clear;refine Br.b8 (λd=>?_) _;refine Br.b9 (λd=>?_) _;simp only [Br.rz,Br.ix,Nat.reduceAdd];refine Br.mo rfl rfl λd K' hK=>?_;go_simp;refine hK _ _ ⟨rfl,?_⟩;clear hK K';refine Br.a9 (λd=>?_) _;refine Br.b8 (λd=>?_) _;refine Br.mc rfl (λu=>stepG_cond (t:=false) (by simp [Act.eval])) (λd=>?_) _;simp only [if_false,Bool.false_eq_true];refine Br.mc rfl (λu=>stepG_exit rfl) (λd=>?_) _;refine Br.b8 (λd=>?_) _;refine Br.b9 (λd=>?_) _;simp only [Br.rz,Br.ix,Nat.reduceAdd];refine Br.mo rfl rfl λd K' hK=>?_;go_simp;refine hK _ _ ⟨rfl,?_⟩;clear hK K';refine Br.mc rfl (λu=>k6 rfl rfl (by decide) rfl Tryd.func93 rfl rfl (vs:=#[pO C.o,.int .i64 10]) (by simp [Act.eval]) u) (λd=>?_) _;exact hd _
  refine a1I 10 _ _ _ (λe go'=>?_);rw [M.pure_then,Frame.finish_at];apply d7
  ·intro l K un w Stop St hd d;have hc:=St.clear;go_simp;(iterate 2(refine Br.mo rfl rfl λd K' hK=>?_;go_simp;refine hK _ _ ⟨rfl,?_⟩;clear hK K'));refine Br.a9 (λd=>?_) _;refine Br.q8 (λd=>?_) _;exact Br.m8 (v:=.tuple #[.int .i64 0,.int .i64 e]) rfl rfl Tryd.func86 (resultsC_tmp2 (t:=4) (u:=5) rfl _) hd _
   done
  exact hn 0 e xs H free go' hF hH
 | succ f ih =>
  intro i hi xs H free hF hH go j6 j7 j8 j13 j14 j15 j16 j17 j18 j19 j20 j21 j22 j23 j24 j25 j26 j27 j28;have hlt:i<K0.nS:=by omega
  have hlt':(i:Int)<(K0.nS:Int):=by omega
  have key:=λ(j6 j7 j8 j13 j14 j15 j16 j17 j18 j19 j20 j21 j22 j23 j24 j25 j26 j27 j28:Value) v hv=>b1N (C:=C) (pv:=pv) (H:=H) (gF:=gF) (gD:=gD) (sb:=sb) hK (hR.same (hH gS hR.1 hgf)) hlt j6 j7 j8 j13 j14 j15 j16 j17 j18 j19 j20 j21 j22 j23 j24 j25 j26 j27 j28 v hv;unfold a0n;unfold a2R at *;unfold b2X at key;simp only [Tryd.f86,pO] at *;apply d7
  ·intro l K un w Stop St hd d;have hc:=St.clear;refine Br.b8 (λd=>?_) _;refine Br.b9 (λd=>?_) _;simp only [Br.rz,Br.ix,Nat.reduceAdd];refine Br.mo rfl rfl λd K' hK=>?_;go_simp;refine hK _ _ ⟨rfl,?_⟩;clear hK K';refine Br.a9 (λd=>?_) _;refine Br.b8 (λd=>?_) _;refine Br.mc rfl (λu=>stepG_cond (t:=true) (by simp [Act.eval,hlt])) (λd=>?_) _;simp only [if_true];refine Br.l9 (λd=>?_) _;refine Br.b8 (λd=>?_) _;refine Br.mc rfl (λu=>stepG_block) (λd=>?_) _;refine Br.b8 (λd=>?_) _;exact hd _
  refine a1x (by kernel_rfl) rfl rfl ⟨_,Tryd.func86⟩ (λv hv _=>key _ _ _ _ _ _ _ _ _ _ _ _ _ _ _ _ _ _ _ v hv) _ _ ?_;rintro a' bs Hn ⟨bx,rfl,rfl,c,t,fz,hX,hc⟩ hnew hkeep;have hbx:=(hnew bx (List.mem_singleton.2 rfl)).1;have hc0:c[0]?=some (.int .i64 (K0.S i 0)):=by rw [hc 0 (by omega),B3 K0 i 0 (by omega) (by omega)]
  have hFn:=Fr.same hkeep hF;have hHn:∀ j∈pv,some j≠fb->Hn j=H0 j:=λj hj hf=>(hkeep j hj).trans (hH j hj hf);apply d7
  ·intro l K un w Stop St hd d;have hc:=St.clear;refine Br.b8 (λd=>?_) _;refine Br.b8 (λd=>?_) _;refine Br.b9 (λd=>?_) _;simp only [Br.rz,Br.ix,Nat.reduceAdd];refine Br.mo rfl rfl λd K' hK=>?_;go_simp;refine hK _ _ ⟨rfl,?_⟩;clear hK K';refine Br.mo rfl rfl λd K' hK=>?_;have e0:(w.at d).cell? ⟨bx,0,none⟩=some (.int .i64 (K0.S i 0)):=St.cell (List.mem_append_left _ (List.mem_singleton.2 rfl)) hX hc0;go_simp;refine hK _ _ ⟨rfl,?_⟩;clear hK K';refine Br.mo rfl rfl λd K' hK=>?_;go_simp;refine hK _ _ ⟨rfl,?_⟩;clear hK K';refine Br.a9 (λd=>?_) _;exact hd _
  refine b1O hbx ?_
  by_cases hz:K0.S i 0=0
  ·rw [if_pos hz,M.bind_then];have hb:(K0.S i 0 != 0)=false:=by simp [hz]
   apply d7
   ·intro l K un w Stop St hd d;have hc:=St.clear;refine Br.mc rfl (λu=>stepG_cond (t:=false) (by simpa [Act.eval] using hb)) (λd=>?_) _;simp only [if_false,Bool.false_eq_true];refine Br.l9 (λd=>?_) _;refine Br.b8 (λd=>?_) _;refine Br.b9 (λd=>?_) _;simp only [Br.rz,Br.ix,Nat.reduceAdd];(iterate 3(refine Br.mo rfl rfl λd K' hK=>?_;go_simp;refine hK _ _ ⟨rfl,?_⟩;clear hK K'));refine Br.mc rfl (λu=>k6 rfl rfl (by decide) rfl Tryd.func81 rfl rfl (vs:=#[pO C.o,.int .i64 5,.agg #[.int .i64 i,.int .i64 0,.int .i64 0],.int .i64 1]) (by simp [Act.eval]) u) (λd=>?_) _;exact hd _
   refine a3y hspec hpl hFn hfb 5 i 0 0 _ _ _ (λe xs' H' free' go' hF' hH'=>?_);have hHH:∀ i∈pv,some i≠fb->H' i=H0 i:=λi hi hf=>(hH' i hi hf).trans (hHn i hi hf);rw [Frame.finish_at];apply d7
   ·intro l K un w Stop St hd d;have hc:=St.clear;go_simp;refine Br.mo rfl rfl λd K' hK=>?_;go_simp;refine hK _ _ ⟨rfl,?_⟩;clear hK K';refine Br.a9 (λd=>?_) _;refine Br.b8 (λd=>?_) _;refine Br.b9 (λd=>?_) _;simp only [Br.rz,Br.ix,Nat.reduceAdd];(iterate 2(refine Br.mo rfl rfl λd K' hK=>?_;go_simp;refine hK _ _ ⟨rfl,?_⟩;clear hK K'));refine Br.a9 (λd=>?_) _;exact hd _
   by_cases he:e=7
   ·subst he;rw [if_pos rfl];apply d7
    ·intro l K un w Stop St hd d;have hc:=St.clear;refine Br.mc rfl (λu=>stepG_cond (t:=false) rfl) (λd=>?_) _;simp only [if_true,if_false,Bool.false_eq_true,↓reduceIte];refine Br.l9 (λd=>?_) _;refine Br.mc rfl (λu=>stepG_inBlock) (λd=>?_) _;refine Br.b9 (λd=>?_) _;simp only [Br.rz,Br.ix,Nat.reduceAdd];(iterate 2(refine Br.mo rfl rfl λd K' hK=>?_;go_simp;refine hK _ _ ⟨rfl,?_⟩;clear hK K'));refine Br.a9 (λd=>?_) _;refine Br.mc rfl (λu=>stepG_inLoop) (λd=>?_) _;exact hd _
    rw [J8 (by omega) (by omega),show ((i:Int)+1)=((i+1:Nat):Int) from by simp];exact ih (i+1) (by omega) xs' H' free' hF' hHH go' _ _ _ _ _ _ _ _ _ _ _ _ _ _ _ _ _ _ _
   ·rw [if_neg he,M.pure_then];have hb:(e != 7)=true:=by simp [he]
    apply d7
    ·intro l K un w Stop St hd d;have hc:=St.clear;refine Br.mc rfl (λu=>stepG_cond (t:=true) (by simpa [Act.eval] using hb)) (λd=>?_) _;simp only [if_true];refine Br.b8 (λd=>?_) _;refine Br.b9 (λd=>?_) _;simp only [Br.rz,Br.ix,Nat.reduceAdd];(iterate 4(refine Br.mo rfl rfl λd K' hK=>?_;go_simp;refine hK _ _ ⟨rfl,?_⟩;clear hK K'));refine Br.a9 (λd=>?_) _;refine Br.q8 (λd=>?_) _;exact Br.m8 (v:=.tuple #[.int .i64 i,.int .i64 e]) rfl rfl Tryd.func86 (resultsC_tmp2 (t:=4) (u:=5) rfl _) hd _
     done
    exact hn i e xs' H' free' go' hF' hHH
  ·rw [if_neg hz];have hb:(K0.S i 0 != 0)=true:=by simp [hz]
   apply d7
   ·intro l K un w Stop St hd d;have hc:=St.clear;refine Br.mc rfl (λu=>stepG_cond (t:=true) (by simpa [Act.eval] using hb)) (λd=>?_) _;simp only [if_true];refine Br.mc rfl (λu=>stepG_exit rfl) (λd=>?_) _;refine Br.b9 (λd=>?_) _;simp only [Br.rz,Br.ix,Nat.reduceAdd];(iterate 2(refine Br.mo rfl rfl λd K' hK=>?_;go_simp;refine hK _ _ ⟨rfl,?_⟩;clear hK K'));refine Br.a9 (λd=>?_) _;refine Br.mc rfl (λu=>stepG_inLoop) (λd=>?_) _;exact hd _
   rw [J8 (by omega) (by omega),show ((i:Int)+1)=((i+1:Nat):Int) from by simp];exact ih (i+1) (by omega) xs Hn free hFn hHn go _ _ _ _ _ _ _ _ _ _ _ _ _ _ _ _ _ _ _
noncomputable def a2S:Code:=(Tryd.f86.body).getD .skip
theorem b0r (o:OpD)(y:Value):Frame.enter Tryd.prog 86 #[pO o,y] .normal=(base 86).at ⟨#[pO o,y,undef,undef,undef,undef,undef,undef,undef,undef,undef,undef,undef,undef,undef,undef,undef,undef,undef,undef,undef,undef,undef,undef,undef,undef,undef,undef,undef,undef,undef],[]⟩ [.code a2S]:=by
 rw [enter_at (c:=a2S) _ Tryd.func86 rfl];refine congrArg (λt=>(base 86).at ⟨t,[]⟩ [.code a2S]) ?_
 kernel_rfl
abbrev L8 (K:Ker)(gF gS gD:Nat):Obj:=.cells #[.slice (some ⟨gF,0,none⟩) K.nF K.nF,.slice (some ⟨gS,0,none⟩) K.nS K.nS,.slice (some ⟨gD,0,none⟩) K.nD K.nD] 45 (0,0)
theorem b1Q (hspec:Z8)(hpl:∀ xs:List Int,xs≠[]->(K8 xs).length=xs.length - 1)(K0:Ker)(gF gS gD:Nat)(hK:K0.nS<=32){fb:Option Nat}(hfb:∀ b,fb=some b->b∈pv)(hgf:some gS≠fb)(hR:Row pv H gS 55 (K0.nS*20) (o0 K0)){xs:List Int}(hF:Fr fb pv H free xs)(fr:Frame)(cs:List Frame)(k:(Int × Int) × List Int->Bool->q7)
  (hn:∀ x e xs' H' free' go',Fr fb pv H' free' xs'->(∀ i∈pv,some i≠fb->H' i=H i)->o9 C n (k ((x,e),xs') go') pv H' free' go' (G (fr.finish (.tuple #[.int .i64 x,.int .i64 e])) cs)) :
  o9 C n ((a0n K0 K0.nS 0 xs).then go k) pv H free go (G (Frame.enter Tryd.prog 86 #[pO C.o,A4 K0 gF gS gD] .normal) (fr::cs)):=by
 have key:=λsb=>b1P (C:=C) (n:=n) hspec hpl K0 gF gS gD sb hK fb hfb hgf H hR fr cs k hn K0.nS 0 (by omega) xs H free hF (λ_ _ _=>rfl) go;unfold a2R at key;rw [b0r];simp only [a2S,Tryd.f86,Option.getD_some,pO] at *;unfold A4 at *;apply a0P (X:=L8 K0 gF gS gD) trivial
 ·intro l K un w bx Stop hbx St hd d;have hc:=St.clear;refine Br.b8 (λd=>?_) _;refine Br.b9 (λd=>?_) _;simp only [Br.rz,Br.ix,Nat.reduceAdd];refine Br.t8 rfl rfl (by decide) (λd K' hK=>?_) _;go_simp;refine hK _ _ ⟨Br.L7 (λe he=>?_),?_⟩
  ·have hm:=mem_listed he;simp [go_sem] at hm
  clear hK K';have hc:Clear (w.alloc (L8 K0 gF gS gD)):=(Br.a0K hc.lk (o:=L8 K0 gF gS gD) trivial).1.sight;rw [show (w.at d).alloc (L8 K0 gF gS gD)=(w.alloc (L8 K0 gF gS gD)).at d from rfl];(iterate 2(refine Br.mo rfl rfl λd K' hK=>?_;go_simp;refine hK _ _ ⟨rfl,?_⟩;clear hK K'));refine Br.a9 (λd=>?_) _;rw [← hbx];exact hd _
 intro bx hb hb';apply d7
 ·intro l K un w Stop St hd d;have hc:=St.clear;refine Br.b8 (λd=>?_) _;refine Br.b8 (λd=>?_) _;refine Br.b9 (λd=>?_) _;simp only [Br.rz,Br.ix,Nat.reduceAdd];refine Br.mo rfl rfl λd K' hK=>?_;go_simp;refine hK _ _ ⟨rfl,?_⟩;clear hK K';refine Br.mo rfl rfl λd K' hK=>?_;have e1:(w.at d).cell? ⟨bx,1,none⟩=some (.slice (some ⟨gS,0,none⟩) K0.nS K0.nS):=St.cell (List.mem_cons_self ..) (w9.set_same _ _ _) rfl;go_simp;refine hK _ _ ⟨rfl,?_⟩;clear hK K';(iterate 2(refine Br.mo rfl rfl λd K' hK=>?_;go_simp;refine hK _ _ ⟨rfl,?_⟩;clear hK K'));refine Br.a9 (λd=>?_) _;refine Br.mc rfl (λu=>stepG_block) (λd=>?_) _;refine Br.mc rfl (λu=>stepG_loop) (λd=>?_) _;exact hd _
 refine N9 hb ?_;exact key bx _ _ _ _ _ _ _ _ _ _ _ _ _ _ _ _ _ _ _
end
def V7 (K:Ker)(p:Nat):Array Value:=#[.int .i64 (K.S p 0),.int .i64 (K.S p 1),.int .i64 (K.S p 2),.int .i64 (K.S p 3),.bool (K.B p 4),.int .i64 (K.S p 5),.bool (K.B p 6),.int .i64 (K.S p 7),.bool (K.B p 8),.int .i64 (K.S p 9),.bool (K.B p 10),.int .i64 (K.S p 11),.bool (K.B p 12),.int .i64 (K.S p 13),.bool (K.B p 14),.int .i64 (K.S p 15),.bool (K.B p 16),.int .i64 (K.S p 17),.bool (K.B p 18),.int .i64 (K.S p 19)]
theorem P5 (K:Ker)(p j:Nat)(hj:j<20)(h:4<=j/\j<=18/\j % 2=0):o0 K (p*20+j)=.bool (K.B p j):=by
 unfold o0;rw [if_pos (by omega),show (p*20+j) / 20=p by omega,show (p*20+j) % 20=j by omega]
theorem a2u (K:Ker)(p:Nat):(cut (o0 K) (p*20) 20).toArray=V7 K p:=by
 unfold cut V7;simp only [List.range,List.range.loop,List.map];rw [show o0 K (p*20+0)=_ from B3 K p 0 (by omega) (by omega)];rw [show o0 K (p*20+1)=_ from B3 K p 1 (by omega) (by omega)];rw [show o0 K (p*20+2)=_ from B3 K p 2 (by omega) (by omega)];rw [show o0 K (p*20+3)=_ from B3 K p 3 (by omega) (by omega)];rw [show o0 K (p*20+4)=_ from P5 K p 4 (by omega) (by omega)];rw [show o0 K (p*20+5)=_ from B3 K p 5 (by omega) (by omega)];rw [show o0 K (p*20+6)=_ from P5 K p 6 (by omega) (by omega)];rw [show o0 K (p*20+7)=_ from B3 K p 7 (by omega) (by omega)];rw [show o0 K (p*20+8)=_ from P5 K p 8 (by omega) (by omega)];rw [show o0 K (p*20+9)=_ from B3 K p 9 (by omega) (by omega)];rw [show o0 K (p*20+10)=_ from P5 K p 10 (by omega) (by omega)];rw [show o0 K (p*20+11)=_ from B3 K p 11 (by omega) (by omega)];rw [show o0 K (p*20+12)=_ from P5 K p 12 (by omega) (by omega)];rw [show o0 K (p*20+13)=_ from B3 K p 13 (by omega) (by omega)];rw [show o0 K (p*20+14)=_ from P5 K p 14 (by omega) (by omega)];rw [show o0 K (p*20+15)=_ from B3 K p 15 (by omega) (by omega)];rw [show o0 K (p*20+16)=_ from P5 K p 16 (by omega) (by omega)];rw [show o0 K (p*20+17)=_ from B3 K p 17 (by omega) (by omega)];rw [show o0 K (p*20+18)=_ from P5 K p 18 (by omega) (by omega)];rw [show o0 K (p*20+19)=_ from B3 K p 19 (by omega) (by omega)]
def a1j (K:Ker)(p:Nat):List Int:=J2 (λj=>K.S p (3+j*2)) 4
def a0Q (K:Ker)(p:Nat):List Int:=J2 (λj=>K.S p (11+j*2)) 4
theorem a6E (K:Ker)(p:Nat)(w:World):Calls Tryd.prog 88 #[.agg (V7 K p)] w λe w'=>∃ V,e=.returned V/\Lis w w' V (a1j K p) :=
 b4W w _ _ _ _ _ _ _ _ _ _ _ _ (λj=>K.S p (3+j*2)) (K.B p 4) (K.B p 6) (K.B p 8) (K.B p 10)
theorem a6F (K:Ker)(p:Nat)(w:World):Calls Tryd.prog 90 #[.agg (V7 K p)] w λe w'=>∃ V,e=.returned V/\Lis w w' V (a0Q K p) :=
 b4X w _ _ _ _ _ _ _ _ _ _ _ _ (λj=>K.S p (11+j*2)) (K.B p 12) (K.B p 14) (K.B p 16) (K.B p 18)
section
variable {C:Ctx} {n:Nat} {s:q7} {pv:List Nat} {H:w9} {free:Value} {go:Bool}
theorem a2v {f:FuncId}(hf:Br.Sg f=true){args:Array Value}{xs:List Int}(hx:xs.length<=40)(hspec:∀ v:World,(∀ i∈pv,i<v.heap.size/\(Br.Obj.sight (H i)->v.heap[i]?=some (H i)))->Calls Tryd.prog f args v (λe v'=>∃ V,e=.returned V/\Lis v v' V xs))(fr:Frame)(cs:List Frame)
  (hn:∀ (sl:Sl) bs Hn,sl.xs=xs->sl.xs.length<=sl.cap->(sl.blk=none\/∃ b,sl.blk=some b/\b∈bs)->sl.ok (bs ++ pv) Hn->(∀ b∈bs,b ∉ pv/\b≠C.o.bo)->(∀ i∈pv,Hn i=H i)->o9 C n s (bs ++ pv) Hn free go (G (fr.finish sl.val) cs)) :
  o9 C n s pv H free go (G (Frame.enter Tryd.prog f args .normal) (fr::cs)):=by
 refine b6X hf (R:=λx bs Hn=>∃ sl:Sl,x=sl.val/\sl.xs=xs/\sl.xs.length<=sl.cap/\(sl.blk=none\/∃ b,sl.blk=some b/\b∈bs)/\sl.ok (bs ++ pv) Hn) (λv hv=>(hspec v hv).mono ?_) fr cs ?_
 ·rintro e v' ⟨V,rfl,L⟩;have hlt:∀ i∈pv,i<v.heap.size:=λi hi=>(hv i hi).1;obtain ⟨o1,o2|⟨g,cap,cur,rfl,hg,hc,h1,h2,h3,h4⟩⟩:=L.own
  ·obtain ⟨rfl,h0⟩:=o2;obtain rfl:xs=[]:=List.length_eq_zero_iff.1 h0;exact ⟨_,[],H,rfl,⟨L.bel.size,L.bel.block,λb hb=>(by cases hb),λ_ _=>rfl⟩,⟨none,0,[]⟩,rfl,rfl,Nat.le_refl _,.inl rfl,by simp,.inl rfl⟩
  ·refine ⟨_,[g],λk=>if k=g then .cells cur 3 (0,0) else H k,rfl,⟨L.bel.size,L.bel.block,λb hb=>?_,λi hi=>?_⟩,⟨some g,cap,xs⟩,by simp [Sl.val],rfl,h1,(.inr ⟨g,rfl,List.mem_singleton.2 rfl⟩),(by show xs.length<=min 40 cap;omega),.inr ⟨g,cur,3,rfl,by simp,by simp,λi x hi=>?_⟩⟩
   ·obtain rfl:=List.mem_singleton.1 hb;exact ⟨hg,by simpa using hc⟩
   ·have:=hlt i hi;show (if i=g then _ else H i)=H i;rw [if_neg (by omega)]
   ·have hi':xs[i]?=some x:=hi;have hl:i<xs.length:=(List.getElem?_eq_some_iff.1 hi').1;have e1:(ints xs)[i]?=some (.int .i64 x):=by simp [ints,hi']
    rw [← h4,List.getElem?_take,if_pos (by omega)] at e1;simpa using e1
 ·rintro x bs Hn ⟨sl,rfl,h1,h2,h3,h4⟩ hb hk;exact hn sl bs Hn h1 h2 h3 h4 hb hk
end
end Go.Proofs.YtcgabodkegcpgaaDoor
namespace Go.Proofs.YtcgabodkegcpgaaDoor.Br
open Go.Conc
def unL (ops:Array Oper)(listed:Array Bool):List Nat:=(List.range ops.size).filter λi=>!listed.getD i true
def Ord (ops:Array Oper)(fuel:Nat)(listed:Array Bool)(rest:List Nat):Prop:=(unL ops listed).length<=fuel/\∃ t,rest=Region.linearise.go .any ops fuel t listed []
theorem a6G {ops:Array Oper}{listed:Array Bool}{i:Nat}(h:i∈Region.ready .any ops listed):i∈unL ops listed:=by
 unfold Region.ready at h;unfold unL;rw [List.mem_filter] at h ⊢;refine ⟨h.1,?_⟩;have:=h.2;simp only [Bool.and_eq_true] at this;exact this.1
theorem b9r {ops:Array Oper}{listed:Array Bool}{i:Nat}(h:i∈unL ops listed):(unL ops (listed.setIfInBounds i true)).length+1=(unL ops listed).length:=by
 have hi:listed.getD i true=false:=by
  have:=(List.mem_filter.1 h).2;simpa using this
 have hlt:i<listed.size:=by
  by_cases e:i<listed.size
  ·exact e
  ·rw [Array.getD_eq_getD_getElem?,Array.getElem?_eq_none (by omega)] at hi;cases hi
 have e:unL ops (listed.setIfInBounds i true)=(unL ops listed).erase i:=by
  have nd:(unL ops listed).Nodup:=List.Pairwise.filter _ List.nodup_range;rw [List.Nodup.erase_eq_filter nd];unfold unL;rw [List.filter_filter];refine List.filter_congr λj _=>?_;rw [Array.getD_eq_getD_getElem?,Array.getD_eq_getD_getElem?,Array.getElem?_setIfInBounds]
  by_cases e:i=j
  ·subst e;simp [hlt]
  ·have:(j != i)=true:=by simp [Ne.symm e]
   simp [e,this]
 rw [e,List.length_erase_of_mem h];have:0<(unL ops listed).length:=List.length_pos_of_mem h;omega
theorem Ord.next {ops:Array Oper}{fuel:Nat}{listed:Array Bool}{rest:List Nat}(h:Ord ops fuel listed rest) :
  (rest=[]/\Region.ready .any ops listed=[])\/∃ f i rest',i∈Region.ready .any ops listed/\rest=i::rest'/\fuel=f+1/\Ord ops f (listed.setIfInBounds i true) rest':=by
 obtain ⟨hl,t,rfl⟩:=h
 cases fuel with
 | zero =>
  refine .inl ⟨by simp [Region.linearise.go],?_⟩;rw [List.eq_nil_iff_forall_not_mem];intro i hi;have:=List.length_pos_of_mem (a6G hi);omega
 | succ f =>
  simp only [Region.linearise.go]
  cases hi:(Region.ready .any ops listed)[t % (Region.ready .any ops listed).length]? with
  | none =>
   have hnil:Region.ready .any ops listed=[]:=by
    cases hr:Region.ready .any ops listed with
    | nil=>rfl
    | cons x xs =>
     rw [hr] at hi;have hlt:t % (x::xs).length<(x::xs).length:=Nat.mod_lt _ (by simp);simp at hi;simp at hlt;omega
   refine .inl ⟨?_,hnil⟩;have hi':=hi;unfold Region.ready at hi';rw [hi'];rfl
  | some i =>
   have hm:i∈Region.ready .any ops listed:=List.mem_of_getElem? hi;have hu:=b9r (a6G hm);refine .inr ⟨f,i,Region.linearise.go .any ops f (t / (Region.ready .any ops listed).length) (listed.setIfInBounds i true) [],hm,?_,rfl,by omega,_,rfl⟩;have hi':=hi;unfold Region.ready at hi';rw [hi'];show Region.linearise.go .any ops f (t / (Region.ready .any ops listed).length) (listed.setIfInBounds i true) [i]=_;rw [linearise_go_acc,List.reverse_singleton,List.singleton_append]
theorem a1M {ops:Array Oper}{J:Act->List Nat->Prop}{Ag:Array Bool->Act->Prop}
  (hstep:∀ f listed a i rest,i∈Region.ready .any ops listed->Ag listed a->Ord ops f (listed.setIfInBounds i true) rest->(∀ a',Ag (listed.setIfInBounds i true) a'->J a' rest)->J a (i::rest))
  (hdone:∀ listed a,Region.ready .any ops listed=[]->Ag listed a->J a []) :
  ∀ fuel listed a rest,Ord ops fuel listed rest->Ag listed a->J a rest:=by
 intro fuel
 induction fuel with
 | zero =>
  intro listed a rest hO hA;rcases hO.next with ⟨rfl,h⟩|⟨f,i,rest',hi,rfl,hf,hO'⟩
  ·exact hdone listed a h hA
  ·cases hf
 | succ f ih =>
  intro listed a rest hO hA;rcases hO.next with ⟨rfl,h⟩|⟨f',i,rest',hi,rfl,hf,hO'⟩
  ·exact hdone listed a h hA
  ·obtain rfl:f=f':=by omega
   exact hstep f listed a i rest' hi hA hO' (λa' hA'=>ih _ a' rest' hO' hA')
theorem G8 {ops:Array Oper}{listed:Array Bool}{i:Nat}(h:i∈Region.ready .any ops listed):i<ops.size:=List.mem_range.1 (List.mem_filter.1 h).1
theorem a8f {ops:Array Oper}{listed:Array Bool}{i:Nat}(h:i∈Region.ready .any ops listed):listed.getD i true=false:=by
 have:=(List.mem_filter.1 (a6G h)).2;simpa using this
theorem f9 {ops:Array Oper}{listed:Array Bool}{i:Nat}{o:Oper}(h:i∈Region.ready .any ops listed)(ho:ops[i]?=some o){j:Nat}(hj:(o.after.any λe=>Region.binds .any e && e.on == j)=true):listed.getD j false=true:=by
 have:=(List.mem_filter.1 h).2;simp only [Bool.and_eq_true,ho,Option.map_some,Option.getD_some,Array.all_eq_true_iff_forall_mem] at this;rw [Array.any_eq_true'] at hj;obtain ⟨e,he,h1⟩:=hj;simp only [Bool.and_eq_true,beq_iff_eq] at h1;obtain ⟨h1,rfl⟩:=h1;have h2:=this.2 e he;rw [h1] at h2;simpa using h2
theorem G9 {ops:Array Oper}{listed:Array Bool}(hs:(List.range ops.size).all (λi=>((ops[i]?).map (·.after.all λe=>!Region.binds .any e || decide (e.on<i))).getD true)=true)(hz:listed.size=ops.size)(h:Region.ready .any ops listed=[]):∀ i,i<ops.size->listed.getD i false=true:=by
 intro i
 induction i using Nat.strongRecOn with
 | _ i ih =>
  intro hi;rw [List.all_eq_true] at hs;have h1:=hs i (List.mem_range.2 hi);have ho:ops[i]?=some ops[i]:=Array.getElem?_eq_getElem hi;rw [ho] at h1;simp only [Option.map_some,Option.getD_some,Array.all_eq_true_iff_forall_mem] at h1;have h2:i ∉ Region.ready .any ops listed:=by rw [h];exact List.not_mem_nil
  unfold Region.ready at h2;rw [List.mem_filter] at h2;have hg:listed.getD i true=listed.getD i false:=by
   rw [Array.getD_eq_getD_getElem?,Array.getD_eq_getD_getElem?,Array.getElem?_eq_getElem (by omega)];rfl
  by_cases e:listed.getD i false=true
  ·exact e
  ·exfalso;refine h2 ⟨List.mem_range.2 hi,?_⟩;rw [hg,ho];simp only [Bool.and_eq_true,Option.map_some,Option.getD_some,Array.all_eq_true_iff_forall_mem];refine ⟨by simpa using e,λx hx=>?_⟩;have h3:=h1 x hx
   cases hb:Region.binds .any x with
   | false=>rfl
   | true =>
    rw [hb] at h3;simp only [Bool.not_true,Bool.false_or,decide_eq_true_eq] at h3 ⊢;exact ih _ h3 (by omega)
structure Agr (ops:Array Oper) (V:Nat->Value) (base:Array Value) (listed:Array Bool) (a:Act):Prop where
 defs:a.defers=[]
 len:listed.size=ops.size
 size:a.tmps.size=base.size
 done:∀ i o t,ops[i]?=some o->o.dst=some t->listed.getD i false=true->t<base.size->a.tmps[t]?=some (V i)
 still:∀ t,(∀ i o,ops[i]?=some o->o.dst=some t->listed.getD i false=false)->a.tmps[t]?=base[t]?
theorem Agr.start (ops:Array Oper)(V:Nat->Value)(base:Array Value):Agr ops V base (Array.replicate ops.size false) ⟨base,[]⟩:=by
 refine ⟨rfl,by simp,rfl,λi o t ho ht hl _=>?_,λ_ _=>rfl⟩;rw [Array.getD_eq_getD_getElem?,Array.getElem?_replicate] at hl;split at hl<;>cases hl
theorem Agr.val {ops:Array Oper}{V V':Nat->Value}{base:Array Value}{listed:Array Bool}{a:Act}(h:Agr ops V base listed a)(hv:∀ i,listed.getD i false=true->V' i=V i):Agr ops V' base listed a :=
 ⟨h.defs,h.len,h.size,λi o t ho ht hl hb=>by rw [hv i hl];exact h.done i o t ho ht hl hb,h.still⟩
def a0R (ops:Array Oper):Bool:=(List.range ops.size).all λi=>(List.range ops.size).all λj=>i == j || (match ops[i]?,ops[j]? with|some oi,some oj=>(match oi.dst,oj.dst with|some s,some t=>s != t|_,_=>true)|_,_=>true)
theorem b0s {ops:Array Oper}(h:a0R ops=true){i j:Nat}{oi oj:Oper}{t:Nat}(hi:ops[i]?=some oi)(hj:ops[j]?=some oj)(ti:oi.dst=some t)(tj:oj.dst=some t):i=j:=by
 unfold a0R at h;rw [List.all_eq_true] at h;have li:=(Array.getElem?_eq_some_iff.1 hi).1;have lj:=(Array.getElem?_eq_some_iff.1 hj).1;have h1:=h i (List.mem_range.2 li);rw [List.all_eq_true] at h1;have h2:=h1 j (List.mem_range.2 lj);simp only [hi,hj,ti,tj,Bool.or_eq_true,beq_iff_eq,bne_self_eq_false,Bool.false_eq_true,or_false] at h2;exact h2
theorem Agr.put {ops:Array Oper}{V:Nat->Value}{base:Array Value}{listed:Array Bool}{a:Act}(h:Agr ops V base listed a)(h1:a0R ops=true){i:Nat}{o:Oper}(ho:ops[i]?=some o){v:Value}(hv:V i=v):Agr ops V base (listed.setIfInBounds i true) (a.put o.dst v):=by
 subst hv;have li:i<listed.size:=by rw [h.len];exact (Array.getElem?_eq_some_iff.1 ho).1
 have hg:∀ j,(listed.setIfInBounds i true).getD j false=if i=j then true else listed.getD j false:=λj=>by
  rw [Array.getD_eq_getD_getElem?,Array.getElem?_setIfInBounds]
  by_cases e:i=j
  ·subst e;simp [li]
  ·simp [e]
 refine ⟨?_,by simp [h.len],?_,λj oj t hj tj hl hb=>?_,λt ht=>?_⟩
 ·unfold Act.put;split<;>exact h.defs
 ·unfold Act.put;split<;>simp [h.size]
 ·rw [hg] at hl
  by_cases e:i=j
  ·subst e;rw [ho] at hj;obtain rfl:=Option.some.inj hj;unfold Act.put;rw [tj];simp [h.size,hb]
  ·rw [if_neg e] at hl;have h0:=h.done j oj t hj tj hl hb;unfold Act.put;split
   ·rename_i d hd;have:d≠t:=λe'=>e (b0s h1 ho hj (e'▸hd) tj);simp only [Array.getElem?_setIfInBounds_ne this];exact h0
   ·exact h0
 ·have h0:∀ j oj,ops[j]?=some oj->oj.dst=some t->listed.getD j false=false:=λj oj hj tj=>by
   have:=ht j oj hj tj;rw [hg] at this
   by_cases e:i=j
   ·rw [if_pos e] at this;cases this
   ·rw [if_neg e] at this;exact this
  have h2:=h.still t h0;unfold Act.put;split
  ·rename_i d hd;have:d≠t:=λe'=>by
    have:=ht i o ho (e'▸hd);rw [hg,if_pos rfl] at this;cases this
   simp only [Array.getElem?_setIfInBounds_ne this];exact h2
  ·exact h2
theorem Agr.tmp {ops:Array Oper}{V:Nat->Value}{base:Array Value}{listed:Array Bool}{a:Act}(h:Agr ops V base listed a){j t:Nat}{o:Oper}{v:Value}(ho:ops[j]?=some o)(ht:o.dst=some t)(hl:listed.getD j false=true)(hb:t<base.size)(hv:V j=v):a.eval (.tmp t)=v:=by
 show a.tmps.getD t undef=v;rw [Array.getD_eq_getD_getElem?,h.done j o t ho ht hl hb,← hv];rfl
theorem Agr.base {ops:Array Oper}{V:Nat->Value}{base:Array Value}{listed:Array Bool}{a:Act}(h:Agr ops V base listed a){t:Nat}{v:Value}(hn:((List.range ops.size).all λi=>((ops[i]?).map (λo=>o.dst != some t)).getD true)=true)(hv:base[t]?=some v):a.eval (.tmp t)=v:=by
 show a.tmps.getD t undef=v;rw [Array.getD_eq_getD_getElem?,h.still t ?_,hv];· rfl
 intro i o ho ht;rw [List.all_eq_true] at hn;have:=hn i (List.mem_range.2 (Array.getElem?_eq_some_iff.1 ho).1);rw [ho] at this;simp [ht] at this
def fill (ops:Array Oper)(V:Nat->Value)(base:Array Value):Array Value:=(base.toList.zipIdx.map λ(x,t)=>match (List.range ops.size).find? (λi=>((ops[i]?).map (λo=>o.dst == some t)).getD false) with|some i=>V i|none=>x).toArray
theorem Agr.full {ops:Array Oper}{V:Nat->Value}{base:Array Value}{listed:Array Bool}{a:Act}(h:Agr ops V base listed a)(hl:∀ i,i<ops.size->listed.getD i false=true):a=⟨fill ops V base,[]⟩:=by
 obtain ⟨tm,df⟩:=a;obtain rfl:df=[]:=h.defs;refine congrArg (λx=>(⟨x,[]⟩:Act)) ?_;apply Array.ext_getElem?;intro t;rcases Nat.lt_or_ge t base.size with hb|hb
 rotate_left
 ·rw [Array.getElem?_eq_none (by have:=h.size;simp only at this;omega),Array.getElem?_eq_none (by simp [fill];omega)]
 ·have e:(fill ops V base)[t]?=some (match (List.range ops.size).find? (λi=>((ops[i]?).map (λo=>o.dst == some t)).getD false) with|some i=>V i|none=>base[t]):=by
   simp only [fill,List.getElem?_toArray,List.getElem?_map,List.getElem?_zipIdx,Nat.zero_add,Array.getElem?_toList,Array.getElem?_eq_getElem hb,Option.map_some]
  rw [e]
  cases hf:(List.range ops.size).find? (λi=>((ops[i]?).map (λo=>o.dst == some t)).getD false) with
  | some i =>
   have h1:=List.find?_some hf;have h2:=List.mem_range.1 (List.mem_of_find?_eq_some hf);rw [Array.getElem?_eq_getElem h2] at h1;simp only [Option.map_some,Option.getD_some,beq_iff_eq] at h1;exact h.done i _ t (Array.getElem?_eq_getElem h2) h1 (hl i h2) hb
  | none =>
   have:=h.still t (λi o ho ht=>by
    have h3:=List.find?_eq_none.1 hf i (List.mem_range.2 (Array.getElem?_eq_some_iff.1 ho).1);rw [ho] at h3
    simp [ht] at h3)
   simp only at this ⊢;rw [this,Array.getElem?_eq_getElem hb]
theorem v9 {ops:Array Oper}{listed:Array Bool}{i:Nat}(h:i∈Region.ready .any ops listed)(h1:listed.getD i false=true):False:=by
 have h0:=a8f h;rw [Array.getD_eq_getD_getElem?] at h0 h1
 cases e:listed[i]? with
 | none=>rw [e] at h1;cases h1
 | some x=>rw [e] at h0 h1;simp at h0 h1;rw [h0] at h1;cases h1
theorem B6 {ops:Array Oper}{listed:Array Bool}{i:Nat}{o:Oper}(h:i∈Region.ready .any ops listed)(ho:ops[i]?=some o){j:Nat}(h1:listed.getD j false=false)(hj:(o.after.any λe=>Region.binds .any e && e.on == j)=true):False:=by
 rw [f9 h ho hj] at h1;cases h1
theorem C0 {listed:Array Bool}{i j:Nat}(h:listed.getD j false=true):(listed.setIfInBounds i true).getD j false=true:=by
 rw [Array.getD_eq_getD_getElem?] at h ⊢;rw [Array.getElem?_setIfInBounds];split
 ·split<;>simp_all
 ·exact h
theorem a1N {listed:Array Bool}{i j:Nat}(h:listed.getD j false=false)(e:i≠j):(listed.setIfInBounds i true).getD j false=false:=by
 rw [Array.getD_eq_getD_getElem?] at h ⊢;rw [Array.getElem?_setIfInBounds,if_neg e];exact h
theorem P8 {ops:Array Oper}{listed:Array Bool}{i:Nat}(h:i∈Region.ready .any ops listed):(listed.setIfInBounds i true).getD i false=true:=by
 have h0:=a8f h;rw [Array.getD_eq_getD_getElem?] at h0 ⊢;rw [Array.getElem?_setIfInBounds,if_pos rfl];split
 ·rfl
 ·rw [Array.getElem?_eq_none (by omega)] at h0;cases h0
theorem X8 {P:Program}(hm:P.follows .mixedOrders=true)(ops:Array Oper)(t:Nat):Ord ops ops.size (Array.replicate ops.size false) (Region.schedule (P.follows .mixedOrders) ops t):=by
 refine ⟨?_,t,?_⟩
 ·unfold unL;exact Nat.le_trans (List.length_filter_le _ _) (by simp)
 ·simp only [Region.schedule,hm,Bool.true_or,if_true];rfl
end Go.Proofs.YtcgabodkegcpgaaDoor.Br
namespace Go.Proofs.YtcgabodkegcpgaaDoor
open Go.Conc Go.RowKit
open Br (OpD KO SO SP sfO Lk Fit Must DL Liv Clear)
section
variable {C:Ctx} {n:Nat} {s:q7} {pv:List Nat} {H:w9} {free:Value} {go:Bool} {g:Goroutine}
theorem a6H {pv':List Nat}{H':w9}(hs:∀ i∈pv',i∈pv)(hH':∀ i∈pv',H i=H' i)(h:o9 C n s pv' H' free go g):o9 C n s pv H free go g:=by
 have key:∀ {l K un go w},Sta C l K pv H free un go w->Sta C l K pv' H' free un go w:=by
  rintro l K un go w ⟨H1,A,hH⟩;refine ⟨H1,A.fewer (λi hi=>?_) (List.mem_cons_self ..) (λ_ _=>rfl),λi hi=>?_⟩
  ·rcases List.mem_cons.1 hi with rfl|hi
   ·exact List.mem_cons_self ..
   ·exact List.mem_cons_of_mem _ (hs i hi)
  ·obtain ⟨h1,h2⟩:=hH i (hs i hi);exact ⟨h1,by rw [h2,hH' i hi]⟩
 have sub:∀ {pv0 w0},Sub (C.o.bo::pv) pv0 w0->Sub (C.o.bo::pv') pv0 w0:=λh i hi=>by
  rcases List.mem_cons.1 hi with rfl|hi
  ·exact h _ (List.mem_cons_self ..)
  ·exact h _ (List.mem_cons_of_mem _ (hs i hi))
 exact ⟨λm l w0 pv0 T K un w hm St M S P d=>h.1 m l w0 pv0 T K un w hm (key St) M (sub S) P d,λhgo l w0 pv0 K un w St M S d=>h.2 hgo l w0 pv0 K un w (key St) M (sub S) d⟩
theorem L9 {H':w9}(h:o9 C n s [] H' free go g):o9 C n s pv H free go g:=a6H (λi hi=>by cases hi) (λi hi=>by cases hi) h
section
variable {ops:Array Oper} {i:Nat} {o:Oper} {a:Act} {b:Frame} {rest:List Nat} {k:List Item} {cs:List Frame}
theorem a8g {v:Value}(ho:ops[i]?=some o)(hg:o.guard=none)(hk:b.kind≠.early)(hop:Br.Y6 Tryd.prog (λ_=>false) [] false o.op=true)
  (hv:∀ l K un w d,Sta C l K pv H free un go w->(execOp a.eval o).run Tryd.prog (w.at d)=.ok (.value v) (w.at d))
  (hn:o9 C n s pv H free go (G (b.at (a.put o.dst v) (.inRegion ops rest::k)) cs)):o9 C n s pv H free go (G (b.at a (.inRegion ops (i::rest)::k)) cs) :=
 d7 (λl K un w Stop St hd d=>Br.a4X ho (by unfold Region.wanted;rw [hg]) hk hop St.clear (λd K' hK=>by rw [hv l K un w d St];exact hK _ _ ⟨rfl,hd d⟩) d) hn
theorem M8 {ty:TypeId}{x:Operand}{b0:Nat}{c:Array Value}{t:TypeId}{f:Nat × Nat}{ms:List Value}{d0:TypeDesc}(ho:ops[i]?=some o)(hg:o.guard=none)(hk:b.kind≠.early)(hop:o.op=.load ty x)
  (hx:a.eval x=.pointer (some ⟨b0,0,none⟩))(hb:b0∈pv)(hH:H b0=.cells c t f)(hms:∀ (j:Nat) (v:Value),ms[j]?=some v->c[j]?=some v)(hu:Tryd.prog.underlying ty=some d0)(hd:d0.isRow=true)(hi:(Tryd.prog.info? ty).map (·.size)=some ms.length)
  (hn:o9 C n s pv H free go (G (b.at (a.put o.dst (.agg ms.toArray)) (.inRegion ops rest::k)) cs)):o9 C n s pv H free go (G (b.at a (.inRegion ops (i::rest)::k)) cs):=by
 refine a8g ho hg hk (by rw [hop];rfl) (λl K un w d St=>?_) hn;have hr:(w.at d).rangeAt b0 0 ms:=λj v hj=>by
  rw [Nat.zero_add];exact St.cell hb hH (hms j v hj)
 unfold execOp;simp only [hop,hx,Instr.loadAt,Instr.sureAddr,Sem.run_bind,Sem.run_pure,Result.andThen_ok,run_loadVar_mid (w.at d) b0 0 ty ms d0 hr hu hd hi]
theorem a1y {main st:Bool}{sft:Nat->Nat}{Stop:Goroutine->World->Prop}{id:Nat}{w:World}(h:∀ t d,Must Tryd.prog main (DL st sft) Stop (G (b.at a (.inRegion ops (Region.schedule (Tryd.prog.follows .mixedOrders) ops t)::k)) cs) (w.at d))(d0:Nat) :
  Must Tryd.prog main (DL st sft) Stop (G (b.at a (.code (.region id ops true)::k)) cs) (w.at d0) :=
 .step (λd=>G (b.at a (.inRegion ops (Region.schedule (Tryd.prog.follows .mixedOrders) ops ((w.at d).tape (w.at d).drawn (.order b.fn id)))::k)) cs) (λd=>w.at ((w.at d).drawn+1)) (λ_=>#[]) rfl (λd=>stepG_region_draw) (λd=>⟨.of_heap _ rfl,λe he=>by simp at he,rfl⟩) (λd=>h _ _)
theorem b4r {id:Nat}(hm:Tryd.prog.follows .mixedOrders=true)(h:∀ rest,Br.Ord ops ops.size (Array.replicate ops.size false) rest->o9 C n s pv H free go (G (b.at a (.inRegion ops rest::k)) cs)) :
  o9 C n s pv H free go (G (b.at a (.code (.region id ops true)::k)) cs):=by
 refine ⟨λm l w0 pv0 T K un w hm' St M S P d=>?_,λhgo l w0 pv0 K un w St M S d=>?_⟩
 ·refine a1y (λt d=>?_) d;exact (h _ (Br.X8 hm ops t)).1 m l w0 pv0 T K un w hm' St M S P d
 ·refine a1y (λt d=>?_) d;exact (h _ (Br.X8 hm ops t)).2 hgo l w0 pv0 K un w St M S d
end
end
end Go.Proofs.YtcgabodkegcpgaaDoor
