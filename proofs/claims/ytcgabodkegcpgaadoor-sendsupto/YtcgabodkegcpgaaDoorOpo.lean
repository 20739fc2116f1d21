/- callWithFrame. -/
import Derived.Test.YtcgabodkegcpgaaDoorOpm
set_option linter.unusedVariables false
set_option linter.unusedSimpArgs false
set_option maxHeartbeats 20000000
set_option maxRecDepth 100000
namespace Go.Proofs.YtcgabodkegcpgaaDoor
open Go.Conc Go.RowKit
open Br (OpD KO SO SP sfO Lk Fit Must DL Liv Clear)
section
variable {C:Ctx} {n:Nat} {pv:List Nat} {H:Heap} {free:Value} {go:Bool}
theorem Sta.store {l:List OpD}{K:Ker}{un:Bool}{w:World}(St:Sta C l K pv H free un go w){b:Nat}(hb:b∈pv){c:Array Value}{t:TypeId}(hH:H b=.cells c t (0,0))(j:Nat)(x:Value) :
  Sta C l K pv (H.set b (.cells (c.setIfInBounds j x) t (0,0))) free un go (w.setCell ⟨b,j,none⟩ x)∧Mine C (C.o.bo::pv) w (w.setCell ⟨b,j,none⟩ x)∧sfO l b=0:=by
 obtain ⟨H',A,hA⟩:=St
 have hbo:=(hA b hb).1
 have hbm:b∈C.o.bo::pv:=List.mem_cons_of_mem _ hb
 have hbw:w.heap[b]?=some (.cells c t (0,0)):=by rw [A.has b hbm,(hA b hb).2,hH]
 have hk:∀ k,k≠b→(w.setCell ⟨b,j,none⟩ x).heap[k]?=w.heap[k]?:=fun k hk=>by rw [Br.heap_setCell,if_neg (fun e=>hk e.symm)]
 have hbw':(w.setCell ⟨b,j,none⟩ x).heap[b]?=some (.cells (c.setIfInBounds j x) t (0,0)):=by rw [Br.heap_setCell,if_pos rfl,hbw];rfl
 have hsz:(w.setCell ⟨b,j,none⟩ x).heap.size=w.heap.size:=by simp [World.setCell]
 obtain ⟨t2,hrow⟩:=A.blk
 obtain ⟨b0,b1,b2,b3,b4⟩:=A.own.ap b hbm
 have hz:sfO l b=0:=Br.sfO_zero fun o ho=>A.far b hbm hbo o ho
 have A':=A.chg (w':=w.setCell ⟨b,j,none⟩ x) hbo hbm (A.env.rep.same (Nat.le_of_eq hsz.symm) (fun k _ h=>hk k (by rcases h with rfl|rfl|rfl|rfl<;>first|exact Ne.symm b0|exact Ne.symm b1|exact Ne.symm b2|exact Ne.symm b3))) ⟨fun i hi=>?_,(Br.lk_setCell A.clear.lk (Nat.zero_le _) _).1.sight⟩ (Nat.le_of_eq hsz.symm) (fun k _ h1 _=>hk k h1) hbw' (by rw [hk _ (Ne.symm hbo)];exact hrow)
 ·refine ⟨⟨_,A',fun i hi=>⟨(hA i hi).1,?_⟩⟩,⟨Nat.le_of_eq hsz.symm,fun k _ h0 _ _ _=>hk k (fun e=>h0 (e▸hbm))⟩,hz⟩
  rw [Heap.set_other _ _ (hA i hi).1]
  by_cases e:i=b
  ·subst e;rw [Heap.set_same,Heap.set_same]
  ·rw [Heap.set_other _ _ e,Heap.set_other _ _ e];exact (hA i hi).2
 ·have hib:i≠b:=fun e=>hi (e▸hz)
  obtain ⟨c',t',h⟩:=A.env.fit.soft i hi
  exact ⟨c',t',by rw [hk i hib];exact h⟩
theorem good_own {s:Strat}{g g':Goroutine}{b:Nat}(hb:b∈pv){c:Array Value}{t:TypeId}(hH:H b=.cells c t (0,0))(j:Nat)(x:Value)
  (hstep:∀ l K un w (Stop:Goroutine→World→Prop),Sta C l K pv H free un go w→sfO l b=0→(∀ d,Must Tryd.prog false (DL true (sfO l)) Stop g' ((w.setCell ⟨b,j,none⟩ x).at d))→∀ d,Must Tryd.prog false (DL true (sfO l)) Stop g (w.at d))
  (hn:Good' C n s pv (H.set b (.cells (c.setIfInBounds j x) t (0,0))) free go g'):Good' C n s pv H free go g :=
 good_step (R:=fun pv' H' free' g''=>pv'=pv∧H'=H.set b (.cells (c.setIfInBounds j x) t (0,0))∧free'=free∧g''=g') (fun l K un w Stop St h d=>by
  obtain ⟨S1,M1,z⟩:=St.store hb hH j x
  exact hstep l K un w Stop St z (h _ _ _ _ _ ⟨rfl,rfl,rfl,rfl⟩ S1 M1 (fun i hi=>.inl hi)) d)
  (fun pv' H' free' g'' ⟨h1,h2,h3,h4⟩=>by subst h1 h2 h3 h4;exact hn)
theorem Heap.set_set (H:Heap)(b:Nat)(x y:Obj):(H.set b x).set b y=H.set b y:=by funext i;by_cases e:i=b<;>simp [Heap.set,e]
theorem Heap.set_self (H:Heap){b:Nat}{x:Obj}(h:H b=x):H.set b x=H:=by funext i;by_cases e:i=b<;>simp [Heap.set,e,h]
theorem Fr.more {fb:Option Nat}{xs:List Int}{b:Nat}{X:Obj}(hb:b ∉ pv)(h:Fr fb pv H free xs):Fr fb (b::pv) (H.set b X) free xs:=by
 obtain ⟨sl,h1,h2,h3,h4,h5⟩:=h
 refine ⟨sl,h1,h2,h3,h4,h5.imp id fun ⟨b',c,t,g1,g2,g3,g4⟩=>⟨b',c,t,g1,List.mem_cons_of_mem _ g2,?_,g4⟩⟩
 rw [Heap.set_other _ _ (fun e=>hb (by rw [← e];exact g2))];exact g3
theorem Fr.less {fb:Option Nat}{xs:List Int}{b:Nat}(hb:fb≠some b)(h:Fr fb (b::pv) H free xs):Fr fb pv H free xs:=by
 obtain ⟨sl,h1,h2,h3,h4,h5⟩:=h
 refine ⟨sl,h1,h2,h3,h4,h5.imp id fun ⟨b',c,t,g1,g2,g3,g4⟩=>⟨b',c,t,g1,?_,g3,g4⟩⟩
 rcases List.mem_cons.1 g2 with rfl|g2
 ·exact absurd (h1.symm.trans g1) hb
 ·exact g2
noncomputable def withTodo:List Item :=
 match Tryd.f81.body with
 | some (.seq _ (.seq (.block i (.loop c)) r))=>[.code c,.inLoop c,.inBlock i,.code r]
 | _=>[]
def withM1 (num:Int):Nat→(a b c:Int)→List Int→M (Int × List Int)
 | 0,_,_,_,xs=>(yieldM 10).bind fun e=>M.pure (e,xs)
 | f+1,a,b,c,xs=>match xs with
  | []=>(yieldM 10).bind fun e=>M.pure (e,[])
  | x::r=>(callM num a x c).bind fun z=>if z.2=5 then withM1 num f a x c (popL (x::r)) else M.pure (z.2,if z.2=0 then popL (x::r) else x::r)
theorem with_loop1 (hspec:PopSpec)(hpl:∀ xs:List Int,xs≠[]→(popL xs).length=xs.length - 1)(num:Int)(y2:Value)(fb:Option Nat)(fr:Frame)(cs:List Frame)(k:Int × List Int→Bool→Strat)(bx:Nat)(hb:bx ∉ pv)(hbf:fb≠some bx)(H0:Heap)
  (hn:∀ e xs' H' free' go',Fr fb pv H' free' xs'→(∀ i∈pv,some i≠fb→H' i=H0 i)→Good' C n (k (e,xs') go') pv H' free' go' (G (fr.finish (.int .i64 e)) cs)) :
  ∀ (f:Nat) (xs:List Int) (H:Heap) (free:Value) (a b c:Int),xs.length≤f→Fr fb pv H free xs→(∀ i∈pv,some i≠fb→H i=H0 i)→∀ (go:Bool) (j9 j10 j11 j12 j13 j14 j15 j16 j17 j18 j19 j20 j21 j22 j23 j24 j25 j26 j27 j28 j29 j30 j31 j32 j33 j34 j35 j36 j37 j38 j39 j40 j41 j42 j43 j44 j45 j46 j47:Value),
  Good' C n ((withM1 num f a b c xs).then go k) (bx::pv) (H.set bx (boxed a b c)) free go (G ((base 81).at ⟨#[pO C.o,.int .i64 num,y2,.int .i64 1,undef,undef,.pointer (some ⟨bx,0,none⟩),undef,.int .i64 0,j9,j10,j11,j12,j13,j14,j15,j16,j17,j18,j19,j20,j21,j22,j23,j24,j25,j26,j27,j28,j29,j30,j31,j32,j33,j34,j35,j36,j37,j38,j39,j40,j41,j42,j43,j44,j45,j46,j47],[]⟩ withTodo) (fr::cs)):=by
 have nil0:∀ (H:Heap) (free:Value) (a b c:Int),Fr fb pv H free []→(∀ i∈pv,some i≠fb→H i=H0 i)→∀ (go:Bool) (j9 j10 j11 j12 j13 j14 j15 j16 j17 j18 j19 j20 j21 j22 j23 j24 j25 j26 j27 j28 j29 j30 j31 j32 j33 j34 j35 j36 j37 j38 j39 j40 j41 j42 j43 j44 j45 j46 j47:Value),
   Good' C n (((yieldM 10).bind fun e=>M.pure (e,([]:List Int))).then go k) (bx::pv) (H.set bx (boxed a b c)) free go (G ((base 81).at ⟨#[pO C.o,.int .i64 num,y2,.int .i64 1,undef,undef,.pointer (some ⟨bx,0,none⟩),undef,.int .i64 0,j9,j10,j11,j12,j13,j14,j15,j16,j17,j18,j19,j20,j21,j22,j23,j24,j25,j26,j27,j28,j29,j30,j31,j32,j33,j34,j35,j36,j37,j38,j39,j40,j41,j42,j43,j44,j45,j46,j47],[]⟩ withTodo) (fr::cs)):=by
  intro H free a b c hF hH go j9 j10 j11 j12 j13 j14 j15 j16 j17 j18 j19 j20 j21 j22 j23 j24 j25 j26 j27 j28 j29 j30 j31 j32 j33 j34 j35 j36 j37 j38 j39 j40 j41 j42 j43 j44 j45 j46 j47
  have hF0:=hF
  obtain ⟨sl,h1,h2,h3,h4⟩:=hF
  have hv:free=.slice (sl.blk.map (⟨·,0,none⟩)) 0 sl.cap:=by rw [h2,Sl.val,h3];rfl
  rw [M.bind_then]
  unfold withTodo
  simp only [Tryd.f81,pO]
  apply good_still
  ·intro l K un w Stop St hd d
   have hc:=St.clear
   refine Br.liv_seq (fun d=>?_) _
   refine Br.liv_seq (fun d=>?_) _
   refine Br.liv_region (fun d=>?_) _
   simp only [Br.rz,Br.ix,Nat.reduceAdd]
   refine Br.mo rfl rfl hc (fun d K' hK=>?_) _
   go_simp
   refine hK _ _ ⟨rfl,?_⟩
   clear hK K'
   refine Br.mo rfl rfl hc (fun d K' hK=>?_) _
   go_simp
   refine hK _ _ ⟨rfl,?_⟩
   clear hK K'
   refine Br.mo rfl rfl hc (fun d K' hK=>?_) _
   go_simp
   refine hK _ _ ⟨rfl,?_⟩
   clear hK K'
   refine Br.mo rfl rfl hc (fun d K' hK=>?_) _
   have e10:(w.at d).cell? ⟨C.o.bo,10,none⟩=some free:=St.rcell rfl
   rw [hv] at e10
   go_simp
   refine hK _ _ ⟨rfl,?_⟩
   clear hK K'
   refine Br.mo rfl rfl hc (fun d K' hK=>?_) _
   go_simp
   refine hK _ _ ⟨rfl,?_⟩
   clear hK K'
   refine Br.mo rfl rfl hc (fun d K' hK=>?_) _
   go_simp
   refine hK _ _ ⟨rfl,?_⟩
   clear hK K'
   refine Br.liv_region_end (fun d=>?_) _
   refine Br.mc rfl (fun u=>stepG_cond (t:=false) (by simp [Act.eval])) (fun d=>?_) _
   simp only [if_false,Bool.false_eq_true]
   refine Br.mc rfl (fun u=>stepG_exit rfl) (fun d=>?_) _
   refine Br.liv_seq (fun d=>?_) _
   refine Br.liv_region (fun d=>?_) _
   simp only [Br.rz,Br.ix,Nat.reduceAdd]
   refine Br.mo rfl rfl hc (fun d K' hK=>?_) _
   go_simp
   refine hK _ _ ⟨rfl,?_⟩
   clear hK K'
   refine Br.mc rfl (fun u=>stepG_call rfl rfl (by decide) rfl Tryd.func93 rfl rfl (vs:=#[pO C.o,.int .i64 10]) (by simp [Act.eval]) u) (fun d=>?_) _
   exact hd _
  refine good_yield 10 _ _ _ (fun e go'=>?_)
  rw [M.pure_then,Frame.finish_at]
  apply good_still
  ·intro l K un w Stop St hd d
   have hc:=St.clear
   go_simp
   refine Br.mo rfl rfl hc (fun d K' hK=>?_) _
   go_simp
   refine hK _ _ ⟨rfl,?_⟩
   clear hK K'
   refine Br.liv_region_end (fun d=>?_) _
   refine Br.liv_ret (fun d=>?_) _
   exact Br.liv_leave (v:=.int .i64 e) rfl rfl Tryd.func81 (resultsC_tmp (t:=8) rfl _) hd _
   done
  exact good_drop hb (hn e [] H free go' hF0 hH)
 intro f
 induction f with
 | zero =>
  intro xs H free a b c hl hF hH go j9 j10 j11 j12 j13 j14 j15 j16 j17 j18 j19 j20 j21 j22 j23 j24 j25 j26 j27 j28 j29 j30 j31 j32 j33 j34 j35 j36 j37 j38 j39 j40 j41 j42 j43 j44 j45 j46 j47
  obtain rfl:xs=[]:=List.length_eq_zero_iff.1 (by omega)
  exact nil0 H free a b c hF hH go j9 j10 j11 j12 j13 j14 j15 j16 j17 j18 j19 j20 j21 j22 j23 j24 j25 j26 j27 j28 j29 j30 j31 j32 j33 j34 j35 j36 j37 j38 j39 j40 j41 j42 j43 j44 j45 j46 j47
 | succ f ih =>
  intro xs H free a b c hl hF hH go j9 j10 j11 j12 j13 j14 j15 j16 j17 j18 j19 j20 j21 j22 j23 j24 j25 j26 j27 j28 j29 j30 j31 j32 j33 j34 j35 j36 j37 j38 j39 j40 j41 j42 j43 j44 j45 j46 j47
  cases xs with
  | nil=>exact nil0 H free a b c hF hH go j9 j10 j11 j12 j13 j14 j15 j16 j17 j18 j19 j20 j21 j22 j23 j24 j25 j26 j27 j28 j29 j30 j31 j32 j33 j34 j35 j36 j37 j38 j39 j40 j41 j42 j43 j44 j45 j46 j47
  | cons x r =>
  have hF0:=hF
  obtain ⟨sl,h1,h2,h3,h4⟩:=hF
  obtain ⟨bq,cq,tq,g1,g2,g3,g4⟩:=h4.2.resolve_left (by rw [h3];simp)
  have hlen:sl.xs.length=r.length+1:=by rw [h3];simp
  have hle:=h4.1
  have hv:free=.slice (some ⟨bq,0,none⟩) (r.length+1) sl.cap:=by rw [h2,Sl.val,g1,h3];simp
  have hq:bq≠bx:=fun e=>hb (e▸g2)
  have hx0:=g4 0 x (by rw [h3];rfl)
  unfold withM1
  rw [M.bind_then]
  have ihs:=ih
  unfold withTodo at ihs ⊢
  simp only [Tryd.f81,pO] at ihs ⊢
  have hpos:((0:Int)<((r.length+1:Nat):Int)):=by omega
  apply good_own (b:=bx) (c:=#[.int .i64 a,.int .i64 b,.int .i64 c]) (t:=33) (List.mem_cons_self ..) (Heap.set_same _ _ _) 1 (.int .i64 x)
  ·intro l K un w Stop St hz hd d
   have hc:=St.clear
   refine Br.liv_seq (fun d=>?_) _
   refine Br.liv_seq (fun d=>?_) _
   refine Br.liv_region (fun d=>?_) _
   simp only [Br.rz,Br.ix,Nat.reduceAdd]
   refine Br.mo rfl rfl hc (fun d K' hK=>?_) _
   go_simp
   refine hK _ _ ⟨rfl,?_⟩
   clear hK K'
   refine Br.mo rfl rfl hc (fun d K' hK=>?_) _
   go_simp
   refine hK _ _ ⟨rfl,?_⟩
   clear hK K'
   refine Br.mo rfl rfl hc (fun d K' hK=>?_) _
   go_simp
   refine hK _ _ ⟨rfl,?_⟩
   clear hK K'
   refine Br.mo rfl rfl hc (fun d K' hK=>?_) _
   have e10:(w.at d).cell? ⟨C.o.bo,10,none⟩=some free:=St.rcell rfl
   rw [hv] at e10
   go_simp
   refine hK _ _ ⟨rfl,?_⟩
   clear hK K'
   refine Br.mo rfl rfl hc (fun d K' hK=>?_) _
   go_simp
   refine hK _ _ ⟨rfl,?_⟩
   clear hK K'
   refine Br.mo rfl rfl hc (fun d K' hK=>?_) _
   go_simp
   refine hK _ _ ⟨rfl,?_⟩
   clear hK K'
   refine Br.liv_region_end (fun d=>?_) _
   refine Br.mc rfl (fun u=>stepG_cond (t:=true) (by simp [Act.eval])) (fun d=>?_) _
   simp only [if_true]
   refine Br.liv_skip (fun d=>?_) _
   refine Br.mc rfl (fun u=>stepG_block) (fun d=>?_) _
   refine Br.liv_seq (fun d=>?_) _
   refine Br.liv_region (fun d=>?_) _
   simp only [Br.rz,Br.ix,Nat.reduceAdd]
   refine Br.mo rfl rfl hc (fun d K' hK=>?_) _
   go_simp
   refine hK _ _ ⟨rfl,?_⟩
   clear hK K'
   refine Br.mo rfl rfl hc (fun d K' hK=>?_) _
   go_simp
   refine hK _ _ ⟨rfl,?_⟩
   clear hK K'
   refine Br.mo rfl rfl hc (fun d K' hK=>?_) _
   go_simp
   refine hK _ _ ⟨rfl,?_⟩
   clear hK K'
   refine Br.mo rfl rfl hc (fun d K' hK=>?_) _
   go_simp
   refine hK _ _ ⟨rfl,?_⟩
   clear hK K'
   refine Br.mo rfl rfl hc (fun d K' hK=>?_) _
   have e10:(w.at d).cell? ⟨C.o.bo,10,none⟩=some free:=St.rcell rfl
   rw [hv] at e10
   go_simp
   refine hK _ _ ⟨rfl,?_⟩
   clear hK K'
   refine Br.mo rfl rfl hc (fun d K' hK=>?_) _
   go_simp
   refine hK _ _ ⟨rfl,?_⟩
   clear hK K'
   refine Br.mo rfl rfl hc (fun d K' hK=>?_) _
   have eq0:(w.at d).cell? ⟨bq,0,none⟩=some (.int .i64 x):=St.cell (List.mem_cons_of_mem _ g2) (by rw [Heap.set_other _ _ hq];exact g3) hx0
   go_simp
   refine hK _ _ ⟨rfl,?_⟩
   clear hK K'
   refine Br.mo rfl rfl hc (fun d K' hK=>?_) _
   go_simp
   refine hK _ _ ⟨rfl,?_⟩
   clear hK K'
   refine Br.must_operW rfl rfl (by decide) (fun d K' hK=>?_) _
   have ep:(w.at d).cell? ⟨bx,1,none⟩=some (.int .i64 b):=St.cell (List.mem_cons_self ..) (Heap.set_same _ _ _) rfl
   have ez:(w.at d).frozen? ⟨bx,1,none⟩=false:=by
    have:=St.blk (List.mem_cons_self ..)
    rw [Heap.set_same] at this
    show w.frozen? _=false
    simp [World.frozen?,this]
   go_simp
   refine hK _ _ ⟨Br.dl_store (by rw [hz];exact Nat.zero_le _) (World.block_lt_of_cell? _ _ ep) (fun e he=>?_),?_⟩
   ·have hm:=mem_listed he
    simp only [go_sem] at hm
    have ep':w.cell? ⟨bx,1,none⟩=some (.int .i64 b):=ep
    have ez':w.frozen? ⟨bx,1,none⟩=false:=ez
    simp [go_sem,ep',ez'] at hm
    exact hm
   clear hK K' ep ez
   exact hd _
  rw [Heap.set_set,show (#[.int .i64 a,.int .i64 b,.int .i64 c]:Array Value).setIfInBounds 1 (.int .i64 x)=#[.int .i64 a,.int .i64 x,.int .i64 c] from rfl]
  apply good_still
  ·intro l K un w Stop St hd d
   have hc:=St.clear
   refine Br.liv_region_end (fun d=>?_) _
   refine Br.liv_seq (fun d=>?_) _
   refine Br.liv_region (fun d=>?_) _
   simp only [Br.rz,Br.ix,Nat.reduceAdd]
   refine Br.mo rfl rfl hc (fun d K' hK=>?_) _
   go_simp
   refine hK _ _ ⟨rfl,?_⟩
   clear hK K'
   refine Br.mo rfl rfl hc (fun d K' hK=>?_) _
   go_simp
   refine hK _ _ ⟨rfl,?_⟩
   clear hK K'
   refine Br.mo rfl rfl hc (fun d K' hK=>?_) _
   have e0:(w.at d).cell? ⟨bx,0,none⟩=some (.int .i64 a):=St.cell (List.mem_cons_self ..) (Heap.set_same _ _ _) rfl
   have e1:(w.at d).cell? ⟨bx,1,none⟩=some (.int .i64 x):=St.cell (List.mem_cons_self ..) (Heap.set_same _ _ _) rfl
   have e2:(w.at d).cell? ⟨bx,2,none⟩=some (.int .i64 c):=St.cell (List.mem_cons_self ..) (Heap.set_same _ _ _) rfl
   go_simp
   refine hK _ _ ⟨rfl,?_⟩
   clear hK K'
   refine Br.mc rfl (fun u=>stepG_call rfl rfl (by decide) rfl Tryd.func84 rfl rfl (vs:=callArgs C.o num a x c) (by simp [Act.eval]) u) (fun d=>?_) _
   exact hd _
  refine good_call num a x c _ _ _ (fun z e go' hg=>?_)
  rw [Frame.finish_at]
  apply good_still
  ·intro l K un w Stop St hd d
   have hc:=St.clear
   go_simp
   refine Br.mo rfl rfl hc (fun d K' hK=>?_) _
   go_simp
   refine hK _ _ ⟨rfl,?_⟩
   clear hK K'
   refine Br.mo rfl rfl hc (fun d K' hK=>?_) _
   go_simp
   refine hK _ _ ⟨rfl,?_⟩
   clear hK K'
   refine Br.mo rfl rfl hc (fun d K' hK=>?_) _
   go_simp
   refine hK _ _ ⟨rfl,?_⟩
   clear hK K'
   refine Br.mo rfl rfl hc (fun d K' hK=>?_) _
   go_simp
   refine hK _ _ ⟨rfl,?_⟩
   clear hK K'
   refine Br.mo rfl rfl hc (fun d K' hK=>?_) _
   go_simp
   refine hK _ _ ⟨rfl,?_⟩
   clear hK K'
   refine Br.liv_region_end (fun d=>?_) _
   refine Br.liv_seq (fun d=>?_) _
   refine Br.liv_seq (fun d=>?_) _
   refine Br.liv_region (fun d=>?_) _
   simp only [Br.rz,Br.ix,Nat.reduceAdd]
   exact hd _
  by_cases e0:e=0
  ·subst e0
   rw [if_neg (show ¬ ((0:Int)=5) by decide),if_pos rfl,M.pure_then]
   apply good_still
   ·intro l K un w Stop St hd d
    have hc:=St.clear
    refine Br.mo rfl rfl hc (fun d K' hK=>?_) _
    go_simp
    refine hK _ _ ⟨rfl,?_⟩
    clear hK K'
    refine Br.mo rfl rfl hc (fun d K' hK=>?_) _
    go_simp
    refine hK _ _ ⟨rfl,?_⟩
    clear hK K'
    refine Br.mo rfl rfl hc (fun d K' hK=>?_) _
    go_simp
    refine hK _ _ ⟨rfl,?_⟩
    clear hK K'
    refine Br.mc rfl (fun u=>stepG_unwanted rfl rfl) (fun d=>?_) _
    go_simp
    refine Br.mc rfl (fun u=>stepG_unwanted rfl rfl) (fun d=>?_) _
    go_simp
    refine Br.mo rfl rfl hc (fun d K' hK=>?_) _
    go_simp
    refine hK _ _ ⟨rfl,?_⟩
    clear hK K'
    refine Br.liv_region_end (fun d=>?_) _
    refine Br.mc rfl (fun u=>stepG_cond (t:=true) rfl) (fun d=>?_) _
    simp only [if_true,if_false,Bool.false_eq_true,↓reduceIte]
    refine Br.liv_region (fun d=>?_) _
    simp only [Br.rz,Br.ix,Nat.reduceAdd]
    refine Br.mo rfl rfl hc (fun d K' hK=>?_) _
    go_simp
    refine hK _ _ ⟨rfl,?_⟩
    clear hK K'
    refine Br.mo rfl rfl hc (fun d K' hK=>?_) _
    go_simp
    refine hK _ _ ⟨rfl,?_⟩
    clear hK K'
    refine Br.mo rfl rfl hc (fun d K' hK=>?_) _
    go_simp
    refine hK _ _ ⟨rfl,?_⟩
    clear hK K'
    refine Br.mo rfl rfl hc (fun d K' hK=>?_) _
    go_simp
    refine hK _ _ ⟨rfl,?_⟩
    clear hK K'
    refine Br.mc rfl (fun u=>stepG_call rfl rfl (by decide) rfl Tryd.func94 rfl rfl (vs:=#[.iface 129 (.pointer (some ⟨C.o.bo,10,none⟩))]) (by simp [Act.eval]) u) (fun d=>?_) _
    exact hd _
   refine good_pop hspec (Fr.more (X:=boxed a x c) hb hF0) (by simp) _ _ (fun H' free' v hF' hH'=>?_)
   have hbH:H' bx=boxed a x c:=by rw [hH' bx (List.mem_cons_self ..) (Ne.symm hbf),Heap.set_same]
   have hset:H'=H'.set bx (boxed a x c):=(Heap.set_self H' hbH).symm
   have hL:=Fr.less hbf hF'
   have hHH:∀ i∈pv,some i≠fb→H' i=H0 i:=fun i hi hf=>by rw [hH' i (List.mem_cons_of_mem _ hi) hf,Heap.set_other _ _ (fun e=>hb (by rw [← e];exact hi))];exact hH i hi hf
   rw [Frame.finish_at]
   rw [hset]
   apply good_still
   ·intro l K un w Stop St hd d
    have hc:=St.clear
    go_simp
    refine Br.liv_region_end (fun d=>?_) _
    refine Br.liv_seq (fun d=>?_) _
    refine Br.liv_region (fun d=>?_) _
    simp only [Br.rz,Br.ix,Nat.reduceAdd]
    refine Br.mo rfl rfl hc (fun d K' hK=>?_) _
    go_simp
    refine hK _ _ ⟨rfl,?_⟩
    clear hK K'
    refine Br.mo rfl rfl hc (fun d K' hK=>?_) _
    go_simp
    refine hK _ _ ⟨rfl,?_⟩
    clear hK K'
    refine Br.liv_region_end (fun d=>?_) _
    refine Br.mc rfl (fun u=>stepG_cond (t:=true) rfl) (fun d=>?_) _
    simp only [if_true,if_false,Bool.false_eq_true,↓reduceIte]
    refine Br.liv_seq (fun d=>?_) _
    refine Br.liv_region (fun d=>?_) _
    simp only [Br.rz,Br.ix,Nat.reduceAdd]
    refine Br.mo rfl rfl hc (fun d K' hK=>?_) _
    go_simp
    refine hK _ _ ⟨rfl,?_⟩
    clear hK K'
    refine Br.mo rfl rfl hc (fun d K' hK=>?_) _
    go_simp
    refine hK _ _ ⟨rfl,?_⟩
    clear hK K'
    refine Br.liv_region_end (fun d=>?_) _
    refine Br.liv_ret (fun d=>?_) _
    exact Br.liv_leave (v:=.int .i64 0) rfl rfl Tryd.func81 (resultsC_tmp (t:=8) rfl _) hd _
    done
   exact good_drop hb (hn 0 (popL (x::r)) H' free' go' hL hHH)
  by_cases e5:e=5
  ·subst e5
   rw [if_pos rfl]
   apply good_still
   ·intro l K un w Stop St hd d
    have hc:=St.clear
    refine Br.mo rfl rfl hc (fun d K' hK=>?_) _
    go_simp
    refine hK _ _ ⟨rfl,?_⟩
    clear hK K'
    refine Br.mo rfl rfl hc (fun d K' hK=>?_) _
    go_simp
    refine hK _ _ ⟨rfl,?_⟩
    clear hK K'
    refine Br.mo rfl rfl hc (fun d K' hK=>?_) _
    go_simp
    refine hK _ _ ⟨rfl,?_⟩
    clear hK K'
    refine Br.mo rfl rfl hc (fun d K' hK=>?_) _
    go_simp
    refine hK _ _ ⟨rfl,?_⟩
    clear hK K'
    refine Br.mo rfl rfl hc (fun d K' hK=>?_) _
    go_simp
    refine hK _ _ ⟨rfl,?_⟩
    clear hK K'
    refine Br.mo rfl rfl hc (fun d K' hK=>?_) _
    go_simp
    refine hK _ _ ⟨rfl,?_⟩
    clear hK K'
    refine Br.liv_region_end (fun d=>?_) _
    refine Br.mc rfl (fun u=>stepG_cond (t:=true) rfl) (fun d=>?_) _
    simp only [if_true,if_false,Bool.false_eq_true,↓reduceIte]
    refine Br.liv_region (fun d=>?_) _
    simp only [Br.rz,Br.ix,Nat.reduceAdd]
    refine Br.mo rfl rfl hc (fun d K' hK=>?_) _
    go_simp
    refine hK _ _ ⟨rfl,?_⟩
    clear hK K'
    refine Br.mo rfl rfl hc (fun d K' hK=>?_) _
    go_simp
    refine hK _ _ ⟨rfl,?_⟩
    clear hK K'
    refine Br.mo rfl rfl hc (fun d K' hK=>?_) _
    go_simp
    refine hK _ _ ⟨rfl,?_⟩
    clear hK K'
    refine Br.mo rfl rfl hc (fun d K' hK=>?_) _
    go_simp
    refine hK _ _ ⟨rfl,?_⟩
    clear hK K'
    refine Br.mc rfl (fun u=>stepG_call rfl rfl (by decide) rfl Tryd.func94 rfl rfl (vs:=#[.iface 129 (.pointer (some ⟨C.o.bo,10,none⟩))]) (by simp [Act.eval]) u) (fun d=>?_) _
    exact hd _
   refine good_pop hspec (Fr.more (X:=boxed a x c) hb hF0) (by simp) _ _ (fun H' free' v hF' hH'=>?_)
   have hbH:H' bx=boxed a x c:=by rw [hH' bx (List.mem_cons_self ..) (Ne.symm hbf),Heap.set_same]
   have hset:H'=H'.set bx (boxed a x c):=(Heap.set_self H' hbH).symm
   have hL:=Fr.less hbf hF'
   have hHH:∀ i∈pv,some i≠fb→H' i=H0 i:=fun i hi hf=>by rw [hH' i (List.mem_cons_of_mem _ hi) hf,Heap.set_other _ _ (fun e=>hb (by rw [← e];exact hi))];exact hH i hi hf
   rw [Frame.finish_at]
   rw [hset]
   apply good_still
   ·intro l K un w Stop St hd d
    have hc:=St.clear
    go_simp
    refine Br.liv_region_end (fun d=>?_) _
    refine Br.liv_seq (fun d=>?_) _
    refine Br.liv_region (fun d=>?_) _
    simp only [Br.rz,Br.ix,Nat.reduceAdd]
    refine Br.mo rfl rfl hc (fun d K' hK=>?_) _
    go_simp
    refine hK _ _ ⟨rfl,?_⟩
    clear hK K'
    refine Br.mo rfl rfl hc (fun d K' hK=>?_) _
    go_simp
    refine hK _ _ ⟨rfl,?_⟩
    clear hK K'
    refine Br.liv_region_end (fun d=>?_) _
    refine Br.mc rfl (fun u=>stepG_cond (t:=false) rfl) (fun d=>?_) _
    simp only [if_true,if_false,Bool.false_eq_true,↓reduceIte]
    refine Br.liv_skip (fun d=>?_) _
    refine Br.mc rfl (fun u=>stepG_inBlock) (fun d=>?_) _
    refine Br.mc rfl (fun u=>stepG_inLoop) (fun d=>?_) _
    exact hd _
   exact ihs (popL (x::r)) H' free' a x c (by have:=hpl (x::r) (by simp);simp only [List.length_cons] at *;omega) hL hHH go' _ _ _ _ _ _ _ _ _ _ _ _ _ _ _ _ _ _ _ _ _ _ _ _ _ _ _ _ _ _ _ _ _ _ _ _ _ _ _
  have he0:(e == 0)=false:=by simp [e0]
  have he5:(e == 5)=false:=by simp [e5]
  have hne5:(e != 5)=true:=by simp [e5]
  rw [if_neg e5,if_neg e0,M.pure_then]
  apply good_still
  ·intro l K un w Stop St hd d
   have hc:=St.clear
   refine Br.mo rfl rfl hc (fun d K' hK=>?_) _
   go_simp
   refine hK _ _ ⟨rfl,?_⟩
   clear hK K'
   refine Br.mo rfl rfl hc (fun d K' hK=>?_) _
   go_simp
   refine hK _ _ ⟨rfl,?_⟩
   clear hK K'
   refine Br.mo rfl rfl hc (fun d K' hK=>?_) _
   go_simp
   refine hK _ _ ⟨rfl,?_⟩
   clear hK K'
   refine Br.mo rfl rfl hc (fun d K' hK=>?_) _
   go_simp
   refine hK _ _ ⟨rfl,?_⟩
   clear hK K'
   refine Br.mo rfl rfl hc (fun d K' hK=>?_) _
   go_simp
   refine hK _ _ ⟨rfl,?_⟩
   clear hK K'
   refine Br.mo rfl rfl hc (fun d K' hK=>?_) _
   go_simp
   refine hK _ _ ⟨rfl,?_⟩
   clear hK K'
   refine Br.liv_region_end (fun d=>?_) _
   refine Br.mc rfl (fun u=>stepG_cond (t:=false) rfl) (fun d=>?_) _
   simp only [if_true,if_false,Bool.false_eq_true,↓reduceIte]
   refine Br.liv_skip (fun d=>?_) _
   refine Br.liv_seq (fun d=>?_) _
   refine Br.liv_region (fun d=>?_) _
   simp only [Br.rz,Br.ix,Nat.reduceAdd]
   refine Br.mo rfl rfl hc (fun d K' hK=>?_) _
   go_simp
   refine hK _ _ ⟨rfl,?_⟩
   clear hK K'
   refine Br.mo rfl rfl hc (fun d K' hK=>?_) _
   go_simp
   refine hK _ _ ⟨rfl,?_⟩
   clear hK K'
   refine Br.liv_region_end (fun d=>?_) _
   refine Br.mc rfl (fun u=>stepG_cond (t:=true) rfl) (fun d=>?_) _
   simp only [if_true,if_false,Bool.false_eq_true,↓reduceIte]
   refine Br.liv_seq (fun d=>?_) _
   refine Br.liv_region (fun d=>?_) _
   simp only [Br.rz,Br.ix,Nat.reduceAdd]
   refine Br.mo rfl rfl hc (fun d K' hK=>?_) _
   go_simp
   refine hK _ _ ⟨rfl,?_⟩
   clear hK K'
   refine Br.mo rfl rfl hc (fun d K' hK=>?_) _
   go_simp
   refine hK _ _ ⟨rfl,?_⟩
   clear hK K'
   refine Br.liv_region_end (fun d=>?_) _
   refine Br.liv_ret (fun d=>?_) _
   exact Br.liv_leave (v:=.int .i64 e) rfl rfl Tryd.func81 (resultsC_tmp (t:=8) rfl _) hd _
   done
  exact good_drop hb (hn e (x::r) H free go' hF0 hH)
def withM2 (num:Int):Nat→(a b c:Int)→List Int→M (Int × List Int)
 | 0,_,_,_,xs=>(yieldM 10).bind fun e=>M.pure (e,xs)
 | f+1,a,b,c,xs=>match xs with
  | []=>(yieldM 10).bind fun e=>M.pure (e,[])
  | x::r=>(callM num a b x).bind fun z=>if z.2=5 then withM2 num f a b x (popL (x::r)) else M.pure (z.2,if z.2=0 then popL (x::r) else x::r)
theorem with_loop2 (hspec:PopSpec)(hpl:∀ xs:List Int,xs≠[]→(popL xs).length=xs.length - 1)(num:Int)(y2:Value)(fb:Option Nat)(fr:Frame)(cs:List Frame)(k:Int × List Int→Bool→Strat)(bx:Nat)(hb:bx ∉ pv)(hbf:fb≠some bx)(H0:Heap)
  (hn:∀ e xs' H' free' go',Fr fb pv H' free' xs'→(∀ i∈pv,some i≠fb→H' i=H0 i)→Good' C n (k (e,xs') go') pv H' free' go' (G (fr.finish (.int .i64 e)) cs)) :
  ∀ (f:Nat) (xs:List Int) (H:Heap) (free:Value) (a b c:Int),xs.length≤f→Fr fb pv H free xs→(∀ i∈pv,some i≠fb→H i=H0 i)→∀ (go:Bool) (j9 j10 j11 j12 j13 j14 j15 j16 j17 j18 j19 j20 j21 j22 j23 j24 j25 j26 j27 j28 j29 j30 j31 j32 j33 j34 j35 j36 j37 j38 j39 j40 j41 j42 j43 j44 j45 j46 j47:Value),
  Good' C n ((withM2 num f a b c xs).then go k) (bx::pv) (H.set bx (boxed a b c)) free go (G ((base 81).at ⟨#[pO C.o,.int .i64 num,y2,.int .i64 2,undef,undef,.pointer (some ⟨bx,0,none⟩),undef,.int .i64 0,j9,j10,j11,j12,j13,j14,j15,j16,j17,j18,j19,j20,j21,j22,j23,j24,j25,j26,j27,j28,j29,j30,j31,j32,j33,j34,j35,j36,j37,j38,j39,j40,j41,j42,j43,j44,j45,j46,j47],[]⟩ withTodo) (fr::cs)):=by
 have nil0:∀ (H:Heap) (free:Value) (a b c:Int),Fr fb pv H free []→(∀ i∈pv,some i≠fb→H i=H0 i)→∀ (go:Bool) (j9 j10 j11 j12 j13 j14 j15 j16 j17 j18 j19 j20 j21 j22 j23 j24 j25 j26 j27 j28 j29 j30 j31 j32 j33 j34 j35 j36 j37 j38 j39 j40 j41 j42 j43 j44 j45 j46 j47:Value),
   Good' C n (((yieldM 10).bind fun e=>M.pure (e,([]:List Int))).then go k) (bx::pv) (H.set bx (boxed a b c)) free go (G ((base 81).at ⟨#[pO C.o,.int .i64 num,y2,.int .i64 2,undef,undef,.pointer (some ⟨bx,0,none⟩),undef,.int .i64 0,j9,j10,j11,j12,j13,j14,j15,j16,j17,j18,j19,j20,j21,j22,j23,j24,j25,j26,j27,j28,j29,j30,j31,j32,j33,j34,j35,j36,j37,j38,j39,j40,j41,j42,j43,j44,j45,j46,j47],[]⟩ withTodo) (fr::cs)):=by
  intro H free a b c hF hH go j9 j10 j11 j12 j13 j14 j15 j16 j17 j18 j19 j20 j21 j22 j23 j24 j25 j26 j27 j28 j29 j30 j31 j32 j33 j34 j35 j36 j37 j38 j39 j40 j41 j42 j43 j44 j45 j46 j47
  have hF0:=hF
  obtain ⟨sl,h1,h2,h3,h4⟩:=hF
  have hv:free=.slice (sl.blk.map (⟨·,0,none⟩)) 0 sl.cap:=by rw [h2,Sl.val,h3];rfl
  rw [M.bind_then]
  unfold withTodo
  simp only [Tryd.f81,pO]
  apply good_still
  ·intro l K un w Stop St hd d
   have hc:=St.clear
   refine Br.liv_seq (fun d=>?_) _
   refine Br.liv_seq (fun d=>?_) _
   refine Br.liv_region (fun d=>?_) _
   simp only [Br.rz,Br.ix,Nat.reduceAdd]
   refine Br.mo rfl rfl hc (fun d K' hK=>?_) _
   go_simp
   refine hK _ _ ⟨rfl,?_⟩
   clear hK K'
   refine Br.mo rfl rfl hc (fun d K' hK=>?_) _
   go_simp
   refine hK _ _ ⟨rfl,?_⟩
   clear hK K'
   refine Br.mo rfl rfl hc (fun d K' hK=>?_) _
   go_simp
   refine hK _ _ ⟨rfl,?_⟩
   clear hK K'
   refine Br.mo rfl rfl hc (fun d K' hK=>?_) _
   have e10:(w.at d).cell? ⟨C.o.bo,10,none⟩=some free:=St.rcell rfl
   rw [hv] at e10
   go_simp
   refine hK _ _ ⟨rfl,?_⟩
   clear hK K'
   refine Br.mo rfl rfl hc (fun d K' hK=>?_) _
   go_simp
   refine hK _ _ ⟨rfl,?_⟩
   clear hK K'
   refine Br.mo rfl rfl hc (fun d K' hK=>?_) _
   go_simp
   refine hK _ _ ⟨rfl,?_⟩
   clear hK K'
   refine Br.liv_region_end (fun d=>?_) _
   refine Br.mc rfl (fun u=>stepG_cond (t:=false) (by simp [Act.eval])) (fun d=>?_) _
   simp only [if_false,Bool.false_eq_true]
   refine Br.mc rfl (fun u=>stepG_exit rfl) (fun d=>?_) _
   refine Br.liv_seq (fun d=>?_) _
   refine Br.liv_region (fun d=>?_) _
   simp only [Br.rz,Br.ix,Nat.reduceAdd]
   refine Br.mo rfl rfl hc (fun d K' hK=>?_) _
   go_simp
   refine hK _ _ ⟨rfl,?_⟩
   clear hK K'
   refine Br.mc rfl (fun u=>stepG_call rfl rfl (by decide) rfl Tryd.func93 rfl rfl (vs:=#[pO C.o,.int .i64 10]) (by simp [Act.eval]) u) (fun d=>?_) _
   exact hd _
  refine good_yield 10 _ _ _ (fun e go'=>?_)
  rw [M.pure_then,Frame.finish_at]
  apply good_still
  ·intro l K un w Stop St hd d
   have hc:=St.clear
   go_simp
   refine Br.mo rfl rfl hc (fun d K' hK=>?_) _
   go_simp
   refine hK _ _ ⟨rfl,?_⟩
   clear hK K'
   refine Br.liv_region_end (fun d=>?_) _
   refine Br.liv_ret (fun d=>?_) _
   exact Br.liv_leave (v:=.int .i64 e) rfl rfl Tryd.func81 (resultsC_tmp (t:=8) rfl _) hd _
   done
  exact good_drop hb (hn e [] H free go' hF0 hH)
 intro f
 induction f with
 | zero =>
  intro xs H free a b c hl hF hH go j9 j10 j11 j12 j13 j14 j15 j16 j17 j18 j19 j20 j21 j22 j23 j24 j25 j26 j27 j28 j29 j30 j31 j32 j33 j34 j35 j36 j37 j38 j39 j40 j41 j42 j43 j44 j45 j46 j47
  obtain rfl:xs=[]:=List.length_eq_zero_iff.1 (by omega)
  exact nil0 H free a b c hF hH go j9 j10 j11 j12 j13 j14 j15 j16 j17 j18 j19 j20 j21 j22 j23 j24 j25 j26 j27 j28 j29 j30 j31 j32 j33 j34 j35 j36 j37 j38 j39 j40 j41 j42 j43 j44 j45 j46 j47
 | succ f ih =>
  intro xs H free a b c hl hF hH go j9 j10 j11 j12 j13 j14 j15 j16 j17 j18 j19 j20 j21 j22 j23 j24 j25 j26 j27 j28 j29 j30 j31 j32 j33 j34 j35 j36 j37 j38 j39 j40 j41 j42 j43 j44 j45 j46 j47
  cases xs with
  | nil=>exact nil0 H free a b c hF hH go j9 j10 j11 j12 j13 j14 j15 j16 j17 j18 j19 j20 j21 j22 j23 j24 j25 j26 j27 j28 j29 j30 j31 j32 j33 j34 j35 j36 j37 j38 j39 j40 j41 j42 j43 j44 j45 j46 j47
  | cons x r =>
  have hF0:=hF
  obtain ⟨sl,h1,h2,h3,h4⟩:=hF
  obtain ⟨bq,cq,tq,g1,g2,g3,g4⟩:=h4.2.resolve_left (by rw [h3];simp)
  have hlen:sl.xs.length=r.length+1:=by rw [h3];simp
  have hle:=h4.1
  have hv:free=.slice (some ⟨bq,0,none⟩) (r.length+1) sl.cap:=by rw [h2,Sl.val,g1,h3];simp
  have hq:bq≠bx:=fun e=>hb (e▸g2)
  have hx0:=g4 0 x (by rw [h3];rfl)
  unfold withM2
  rw [M.bind_then]
  have ihs:=ih
  unfold withTodo at ihs ⊢
  simp only [Tryd.f81,pO] at ihs ⊢
  have hpos:((0:Int)<((r.length+1:Nat):Int)):=by omega
  apply good_own (b:=bx) (c:=#[.int .i64 a,.int .i64 b,.int .i64 c]) (t:=33) (List.mem_cons_self ..) (Heap.set_same _ _ _) 2 (.int .i64 x)
  ·intro l K un w Stop St hz hd d
   have hc:=St.clear
   refine Br.liv_seq (fun d=>?_) _
   refine Br.liv_seq (fun d=>?_) _
   refine Br.liv_region (fun d=>?_) _
   simp only [Br.rz,Br.ix,Nat.reduceAdd]
   refine Br.mo rfl rfl hc (fun d K' hK=>?_) _
   go_simp
   refine hK _ _ ⟨rfl,?_⟩
   clear hK K'
   refine Br.mo rfl rfl hc (fun d K' hK=>?_) _
   go_simp
   refine hK _ _ ⟨rfl,?_⟩
   clear hK K'
   refine Br.mo rfl rfl hc (fun d K' hK=>?_) _
   go_simp
   refine hK _ _ ⟨rfl,?_⟩
   clear hK K'
   refine Br.mo rfl rfl hc (fun d K' hK=>?_) _
   have e10:(w.at d).cell? ⟨C.o.bo,10,none⟩=some free:=St.rcell rfl
   rw [hv] at e10
   go_simp
   refine hK _ _ ⟨rfl,?_⟩
   clear hK K'
   refine Br.mo rfl rfl hc (fun d K' hK=>?_) _
   go_simp
   refine hK _ _ ⟨rfl,?_⟩
   clear hK K'
   refine Br.mo rfl rfl hc (fun d K' hK=>?_) _
   go_simp
   refine hK _ _ ⟨rfl,?_⟩
   clear hK K'
   refine Br.liv_region_end (fun d=>?_) _
   refine Br.mc rfl (fun u=>stepG_cond (t:=true) (by simp [Act.eval])) (fun d=>?_) _
   simp only [if_true]
   refine Br.liv_skip (fun d=>?_) _
   refine Br.mc rfl (fun u=>stepG_block) (fun d=>?_) _
   refine Br.liv_seq (fun d=>?_) _
   refine Br.liv_region (fun d=>?_) _
   simp only [Br.rz,Br.ix,Nat.reduceAdd]
   refine Br.mo rfl rfl hc (fun d K' hK=>?_) _
   go_simp
   refine hK _ _ ⟨rfl,?_⟩
   clear hK K'
   refine Br.mo rfl rfl hc (fun d K' hK=>?_) _
   go_simp
   refine hK _ _ ⟨rfl,?_⟩
   clear hK K'
   refine Br.mo rfl rfl hc (fun d K' hK=>?_) _
   go_simp
   refine hK _ _ ⟨rfl,?_⟩
   clear hK K'
   refine Br.mo rfl rfl hc (fun d K' hK=>?_) _
   go_simp
   refine hK _ _ ⟨rfl,?_⟩
   clear hK K'
   refine Br.mo rfl rfl hc (fun d K' hK=>?_) _
   have e10:(w.at d).cell? ⟨C.o.bo,10,none⟩=some free:=St.rcell rfl
   rw [hv] at e10
   go_simp
   refine hK _ _ ⟨rfl,?_⟩
   clear hK K'
   refine Br.mo rfl rfl hc (fun d K' hK=>?_) _
   go_simp
   refine hK _ _ ⟨rfl,?_⟩
   clear hK K'
   refine Br.mo rfl rfl hc (fun d K' hK=>?_) _
   have eq0:(w.at d).cell? ⟨bq,0,none⟩=some (.int .i64 x):=St.cell (List.mem_cons_of_mem _ g2) (by rw [Heap.set_other _ _ hq];exact g3) hx0
   go_simp
   refine hK _ _ ⟨rfl,?_⟩
   clear hK K'
   refine Br.mo rfl rfl hc (fun d K' hK=>?_) _
   go_simp
   refine hK _ _ ⟨rfl,?_⟩
   clear hK K'
   refine Br.must_operW rfl rfl (by decide) (fun d K' hK=>?_) _
   have ep:(w.at d).cell? ⟨bx,2,none⟩=some (.int .i64 c):=St.cell (List.mem_cons_self ..) (Heap.set_same _ _ _) rfl
   have ez:(w.at d).frozen? ⟨bx,2,none⟩=false:=by
    have:=St.blk (List.mem_cons_self ..)
    rw [Heap.set_same] at this
    show w.frozen? _=false
    simp [World.frozen?,this]
   go_simp
   refine hK _ _ ⟨Br.dl_store (by rw [hz];exact Nat.zero_le _) (World.block_lt_of_cell? _ _ ep) (fun e he=>?_),?_⟩
   ·have hm:=mem_listed he
    simp only [go_sem] at hm
    have ep':w.cell? ⟨bx,2,none⟩=some (.int .i64 c):=ep
    have ez':w.frozen? ⟨bx,2,none⟩=false:=ez
    simp [go_sem,ep',ez'] at hm
    exact hm
   clear hK K' ep ez
   exact hd _
  rw [Heap.set_set,show (#[.int .i64 a,.int .i64 b,.int .i64 c]:Array Value).setIfInBounds 2 (.int .i64 x)=#[.int .i64 a,.int .i64 b,.int .i64 x] from rfl]
  apply good_still
  ·intro l K un w Stop St hd d
   have hc:=St.clear
   refine Br.liv_region_end (fun d=>?_) _
   refine Br.liv_seq (fun d=>?_) _
   refine Br.liv_region (fun d=>?_) _
   simp only [Br.rz,Br.ix,Nat.reduceAdd]
   refine Br.mo rfl rfl hc (fun d K' hK=>?_) _
   go_simp
   refine hK _ _ ⟨rfl,?_⟩
   clear hK K'
   refine Br.mo rfl rfl hc (fun d K' hK=>?_) _
   go_simp
   refine hK _ _ ⟨rfl,?_⟩
   clear hK K'
   refine Br.mo rfl rfl hc (fun d K' hK=>?_) _
   have e0:(w.at d).cell? ⟨bx,0,none⟩=some (.int .i64 a):=St.cell (List.mem_cons_self ..) (Heap.set_same _ _ _) rfl
   have e1:(w.at d).cell? ⟨bx,1,none⟩=some (.int .i64 b):=St.cell (List.mem_cons_self ..) (Heap.set_same _ _ _) rfl
   have e2:(w.at d).cell? ⟨bx,2,none⟩=some (.int .i64 x):=St.cell (List.mem_cons_self ..) (Heap.set_same _ _ _) rfl
   go_simp
   refine hK _ _ ⟨rfl,?_⟩
   clear hK K'
   refine Br.mc rfl (fun u=>stepG_call rfl rfl (by decide) rfl Tryd.func84 rfl rfl (vs:=callArgs C.o num a b x) (by simp [Act.eval]) u) (fun d=>?_) _
   exact hd _
  refine good_call num a b x _ _ _ (fun z e go' hg=>?_)
  rw [Frame.finish_at]
  apply good_still
  ·intro l K un w Stop St hd d
   have hc:=St.clear
   go_simp
   refine Br.mo rfl rfl hc (fun d K' hK=>?_) _
   go_simp
   refine hK _ _ ⟨rfl,?_⟩
   clear hK K'
   refine Br.mo rfl rfl hc (fun d K' hK=>?_) _
   go_simp
   refine hK _ _ ⟨rfl,?_⟩
   clear hK K'
   refine Br.mo rfl rfl hc (fun d K' hK=>?_) _
   go_simp
   refine hK _ _ ⟨rfl,?_⟩
   clear hK K'
   refine Br.mo rfl rfl hc (fun d K' hK=>?_) _
   go_simp
   refine hK _ _ ⟨rfl,?_⟩
   clear hK K'
   refine Br.mo rfl rfl hc (fun d K' hK=>?_) _
   go_simp
   refine hK _ _ ⟨rfl,?_⟩
   clear hK K'
   refine Br.liv_region_end (fun d=>?_) _
   refine Br.liv_seq (fun d=>?_) _
   refine Br.liv_seq (fun d=>?_) _
   refine Br.liv_region (fun d=>?_) _
   simp only [Br.rz,Br.ix,Nat.reduceAdd]
   exact hd _
  by_cases e0:e=0
  ·subst e0
   rw [if_neg (show ¬ ((0:Int)=5) by decide),if_pos rfl,M.pure_then]
   apply good_still
   ·intro l K un w Stop St hd d
    have hc:=St.clear
    refine Br.mo rfl rfl hc (fun d K' hK=>?_) _
    go_simp
    refine hK _ _ ⟨rfl,?_⟩
    clear hK K'
    refine Br.mo rfl rfl hc (fun d K' hK=>?_) _
    go_simp
    refine hK _ _ ⟨rfl,?_⟩
    clear hK K'
    refine Br.mo rfl rfl hc (fun d K' hK=>?_) _
    go_simp
    refine hK _ _ ⟨rfl,?_⟩
    clear hK K'
    refine Br.mc rfl (fun u=>stepG_unwanted rfl rfl) (fun d=>?_) _
    go_simp
    refine Br.mc rfl (fun u=>stepG_unwanted rfl rfl) (fun d=>?_) _
    go_simp
    refine Br.mo rfl rfl hc (fun d K' hK=>?_) _
    go_simp
    refine hK _ _ ⟨rfl,?_⟩
    clear hK K'
    refine Br.liv_region_end (fun d=>?_) _
    refine Br.mc rfl (fun u=>stepG_cond (t:=true) rfl) (fun d=>?_) _
    simp only [if_true,if_false,Bool.false_eq_true,↓reduceIte]
    refine Br.liv_region (fun d=>?_) _
    simp only [Br.rz,Br.ix,Nat.reduceAdd]
    refine Br.mo rfl rfl hc (fun d K' hK=>?_) _
    go_simp
    refine hK _ _ ⟨rfl,?_⟩
    clear hK K'
    refine Br.mo rfl rfl hc (fun d K' hK=>?_) _
    go_simp
    refine hK _ _ ⟨rfl,?_⟩
    clear hK K'
    refine Br.mo rfl rfl hc (fun d K' hK=>?_) _
    go_simp
    refine hK _ _ ⟨rfl,?_⟩
    clear hK K'
    refine Br.mo rfl rfl hc (fun d K' hK=>?_) _
    go_simp
    refine hK _ _ ⟨rfl,?_⟩
    clear hK K'
    refine Br.mc rfl (fun u=>stepG_call rfl rfl (by decide) rfl Tryd.func94 rfl rfl (vs:=#[.iface 129 (.pointer (some ⟨C.o.bo,10,none⟩))]) (by simp [Act.eval]) u) (fun d=>?_) _
    exact hd _
   refine good_pop hspec (Fr.more (X:=boxed a b x) hb hF0) (by simp) _ _ (fun H' free' v hF' hH'=>?_)
   have hbH:H' bx=boxed a b x:=by rw [hH' bx (List.mem_cons_self ..) (Ne.symm hbf),Heap.set_same]
   have hset:H'=H'.set bx (boxed a b x):=(Heap.set_self H' hbH).symm
   have hL:=Fr.less hbf hF'
   have hHH:∀ i∈pv,some i≠fb→H' i=H0 i:=fun i hi hf=>by rw [hH' i (List.mem_cons_of_mem _ hi) hf,Heap.set_other _ _ (fun e=>hb (by rw [← e];exact hi))];exact hH i hi hf
   rw [Frame.finish_at]
   rw [hset]
   apply good_still
   ·intro l K un w Stop St hd d
    have hc:=St.clear
    go_simp
    refine Br.liv_region_end (fun d=>?_) _
    refine Br.liv_seq (fun d=>?_) _
    refine Br.liv_region (fun d=>?_) _
    simp only [Br.rz,Br.ix,Nat.reduceAdd]
    refine Br.mo rfl rfl hc (fun d K' hK=>?_) _
    go_simp
    refine hK _ _ ⟨rfl,?_⟩
    clear hK K'
    refine Br.mo rfl rfl hc (fun d K' hK=>?_) _
    go_simp
    refine hK _ _ ⟨rfl,?_⟩
    clear hK K'
    refine Br.liv_region_end (fun d=>?_) _
    refine Br.mc rfl (fun u=>stepG_cond (t:=true) rfl) (fun d=>?_) _
    simp only [if_true,if_false,Bool.false_eq_true,↓reduceIte]
    refine Br.liv_seq (fun d=>?_) _
    refine Br.liv_region (fun d=>?_) _
    simp only [Br.rz,Br.ix,Nat.reduceAdd]
    refine Br.mo rfl rfl hc (fun d K' hK=>?_) _
    go_simp
    refine hK _ _ ⟨rfl,?_⟩
    clear hK K'
    refine Br.mo rfl rfl hc (fun d K' hK=>?_) _
    go_simp
    refine hK _ _ ⟨rfl,?_⟩
    clear hK K'
    refine Br.liv_region_end (fun d=>?_) _
    refine Br.liv_ret (fun d=>?_) _
    exact Br.liv_leave (v:=.int .i64 0) rfl rfl Tryd.func81 (resultsC_tmp (t:=8) rfl _) hd _
    done
   exact good_drop hb (hn 0 (popL (x::r)) H' free' go' hL hHH)
  by_cases e5:e=5
  ·subst e5
   rw [if_pos rfl]
   apply good_still
   ·intro l K un w Stop St hd d
    have hc:=St.clear
    refine Br.mo rfl rfl hc (fun d K' hK=>?_) _
    go_simp
    refine hK _ _ ⟨rfl,?_⟩
    clear hK K'
    refine Br.mo rfl rfl hc (fun d K' hK=>?_) _
    go_simp
    refine hK _ _ ⟨rfl,?_⟩
    clear hK K'
    refine Br.mo rfl rfl hc (fun d K' hK=>?_) _
    go_simp
    refine hK _ _ ⟨rfl,?_⟩
    clear hK K'
    refine Br.mo rfl rfl hc (fun d K' hK=>?_) _
    go_simp
    refine hK _ _ ⟨rfl,?_⟩
    clear hK K'
    refine Br.mo rfl rfl hc (fun d K' hK=>?_) _
    go_simp
    refine hK _ _ ⟨rfl,?_⟩
    clear hK K'
    refine Br.mo rfl rfl hc (fun d K' hK=>?_) _
    go_simp
    refine hK _ _ ⟨rfl,?_⟩
    clear hK K'
    refine Br.liv_region_end (fun d=>?_) _
    refine Br.mc rfl (fun u=>stepG_cond (t:=true) rfl) (fun d=>?_) _
    simp only [if_true,if_false,Bool.false_eq_true,↓reduceIte]
    refine Br.liv_region (fun d=>?_) _
    simp only [Br.rz,Br.ix,Nat.reduceAdd]
    refine Br.mo rfl rfl hc (fun d K' hK=>?_) _
    go_simp
    refine hK _ _ ⟨rfl,?_⟩
    clear hK K'
    refine Br.mo rfl rfl hc (fun d K' hK=>?_) _
    go_simp
    refine hK _ _ ⟨rfl,?_⟩
    clear hK K'
    refine Br.mo rfl rfl hc (fun d K' hK=>?_) _
    go_simp
    refine hK _ _ ⟨rfl,?_⟩
    clear hK K'
    refine Br.mo rfl rfl hc (fun d K' hK=>?_) _
    go_simp
    refine hK _ _ ⟨rfl,?_⟩
    clear hK K'
    refine Br.mc rfl (fun u=>stepG_call rfl rfl (by decide) rfl Tryd.func94 rfl rfl (vs:=#[.iface 129 (.pointer (some ⟨C.o.bo,10,none⟩))]) (by simp [Act.eval]) u) (fun d=>?_) _
    exact hd _
   refine good_pop hspec (Fr.more (X:=boxed a b x) hb hF0) (by simp) _ _ (fun H' free' v hF' hH'=>?_)
   have hbH:H' bx=boxed a b x:=by rw [hH' bx (List.mem_cons_self ..) (Ne.symm hbf),Heap.set_same]
   have hset:H'=H'.set bx (boxed a b x):=(Heap.set_self H' hbH).symm
   have hL:=Fr.less hbf hF'
   have hHH:∀ i∈pv,some i≠fb→H' i=H0 i:=fun i hi hf=>by rw [hH' i (List.mem_cons_of_mem _ hi) hf,Heap.set_other _ _ (fun e=>hb (by rw [← e];exact hi))];exact hH i hi hf
   rw [Frame.finish_at]
   rw [hset]
   apply good_still
   ·intro l K un w Stop St hd d
    have hc:=St.clear
    go_simp
    refine Br.liv_region_end (fun d=>?_) _
    refine Br.liv_seq (fun d=>?_) _
    refine Br.liv_region (fun d=>?_) _
    simp only [Br.rz,Br.ix,Nat.reduceAdd]
    refine Br.mo rfl rfl hc (fun d K' hK=>?_) _
    go_simp
    refine hK _ _ ⟨rfl,?_⟩
    clear hK K'
    refine Br.mo rfl rfl hc (fun d K' hK=>?_) _
    go_simp
    refine hK _ _ ⟨rfl,?_⟩
    clear hK K'
    refine Br.liv_region_end (fun d=>?_) _
    refine Br.mc rfl (fun u=>stepG_cond (t:=false) rfl) (fun d=>?_) _
    simp only [if_true,if_false,Bool.false_eq_true,↓reduceIte]
    refine Br.liv_skip (fun d=>?_) _
    refine Br.mc rfl (fun u=>stepG_inBlock) (fun d=>?_) _
    refine Br.mc rfl (fun u=>stepG_inLoop) (fun d=>?_) _
    exact hd _
   exact ihs (popL (x::r)) H' free' a b x (by have:=hpl (x::r) (by simp);simp only [List.length_cons] at *;omega) hL hHH go' _ _ _ _ _ _ _ _ _ _ _ _ _ _ _ _ _ _ _ _ _ _ _ _ _ _ _ _ _ _ _ _ _ _ _ _ _ _ _
  have he0:(e == 0)=false:=by simp [e0]
  have he5:(e == 5)=false:=by simp [e5]
  have hne5:(e != 5)=true:=by simp [e5]
  rw [if_neg e5,if_neg e0,M.pure_then]
  apply good_still
  ·intro l K un w Stop St hd d
   have hc:=St.clear
   refine Br.mo rfl rfl hc (fun d K' hK=>?_) _
   go_simp
   refine hK _ _ ⟨rfl,?_⟩
   clear hK K'
   refine Br.mo rfl rfl hc (fun d K' hK=>?_) _
   go_simp
   refine hK _ _ ⟨rfl,?_⟩
   clear hK K'
   refine Br.mo rfl rfl hc (fun d K' hK=>?_) _
   go_simp
   refine hK _ _ ⟨rfl,?_⟩
   clear hK K'
   refine Br.mo rfl rfl hc (fun d K' hK=>?_) _
   go_simp
   refine hK _ _ ⟨rfl,?_⟩
   clear hK K'
   refine Br.mo rfl rfl hc (fun d K' hK=>?_) _
   go_simp
   refine hK _ _ ⟨rfl,?_⟩
   clear hK K'
   refine Br.mo rfl rfl hc (fun d K' hK=>?_) _
   go_simp
   refine hK _ _ ⟨rfl,?_⟩
   clear hK K'
   refine Br.liv_region_end (fun d=>?_) _
   refine Br.mc rfl (fun u=>stepG_cond (t:=false) rfl) (fun d=>?_) _
   simp only [if_true,if_false,Bool.false_eq_true,↓reduceIte]
   refine Br.liv_skip (fun d=>?_) _
   refine Br.liv_seq (fun d=>?_) _
   refine Br.liv_region (fun d=>?_) _
   simp only [Br.rz,Br.ix,Nat.reduceAdd]
   refine Br.mo rfl rfl hc (fun d K' hK=>?_) _
   go_simp
   refine hK _ _ ⟨rfl,?_⟩
   clear hK K'
   refine Br.mo rfl rfl hc (fun d K' hK=>?_) _
   go_simp
   refine hK _ _ ⟨rfl,?_⟩
   clear hK K'
   refine Br.liv_region_end (fun d=>?_) _
   refine Br.mc rfl (fun u=>stepG_cond (t:=true) rfl) (fun d=>?_) _
   simp only [if_true,if_false,Bool.false_eq_true,↓reduceIte]
   refine Br.liv_seq (fun d=>?_) _
   refine Br.liv_region (fun d=>?_) _
   simp only [Br.rz,Br.ix,Nat.reduceAdd]
   refine Br.mo rfl rfl hc (fun d K' hK=>?_) _
   go_simp
   refine hK _ _ ⟨rfl,?_⟩
   clear hK K'
   refine Br.mo rfl rfl hc (fun d K' hK=>?_) _
   go_simp
   refine hK _ _ ⟨rfl,?_⟩
   clear hK K'
   refine Br.liv_region_end (fun d=>?_) _
   refine Br.liv_ret (fun d=>?_) _
   exact Br.liv_leave (v:=.int .i64 e) rfl rfl Tryd.func81 (resultsC_tmp (t:=8) rfl _) hd _
   done
  exact good_drop hb (hn e (x::r) H free go' hF0 hH)
noncomputable def withBody:Code:=(Tryd.f81.body).getD .skip
theorem with_enter (o:OpD)(x z:Int)(y:Value):Frame.enter Tryd.prog 81 #[pO o,.int .i64 x,y,.int .i64 z] .normal=(base 81).at ⟨#[pO o,.int .i64 x,y,.int .i64 z,undef,undef,undef,undef,undef,undef,undef,undef,undef,undef,undef,undef,undef,undef,undef,undef,undef,undef,undef,undef,undef,undef,undef,undef,undef,undef,undef,undef,undef,undef,undef,undef,undef,undef,undef,undef,undef,undef,undef,undef,undef,undef,undef,undef],[]⟩ [.code withBody]:=by
 rw [enter_at (c:=withBody) _ Tryd.func81 rfl]
 refine congrArg (fun t=>(base 81).at ⟨t,[]⟩ [.code withBody]) ?_
 kernel_rfl
theorem good_with1 (hspec:PopSpec)(hpl:∀ xs:List Int,xs≠[]→(popL xs).length=xs.length - 1){fb:Option Nat}{xs:List Int}(hF:Fr fb pv H free xs)(hfb:∀ b,fb=some b→b∈pv)(num a b c:Int)(fr:Frame)(cs:List Frame)(k:Int × List Int→Bool→Strat)
  (hn:∀ e xs' H' free' go',Fr fb pv H' free' xs'→(∀ i∈pv,some i≠fb→H' i=H i)→Good' C n (k (e,xs') go') pv H' free' go' (G (fr.finish (.int .i64 e)) cs)) :
  Good' C n ((withM1 num xs.length a b c xs).then go k) pv H free go (G (Frame.enter Tryd.prog 81 #[pO C.o,.int .i64 num,.agg #[.int .i64 a,.int .i64 b,.int .i64 c],.int .i64 1] .normal) (fr::cs)):=by
 have key:=fun bx hb hbf=>with_loop1 (C:=C) (n:=n) hspec hpl num (.agg #[.int .i64 a,.int .i64 b,.int .i64 c]) fb fr cs k bx hb hbf H hn xs.length xs H free a b c (Nat.le_refl _) hF (fun _ _ _=>rfl) go
 unfold withTodo at key
 rw [with_enter]
 simp only [withBody,Tryd.f81,Option.getD_some,pO] at *
 apply good_box (X:=boxed a b c) trivial
 ·intro l K un w bx Stop hbx St hd d
  have hc:=St.clear
  refine Br.liv_seq (fun d=>?_) _
  refine Br.liv_region (fun d=>?_) _
  simp only [Br.rz,Br.ix,Nat.reduceAdd]
  refine Br.must_operW rfl rfl (by decide) (fun d K' hK=>?_) _
  go_simp
  refine hK _ _ ⟨Br.dl_alloc (fun e he=>?_),?_⟩
  ·have hm:=mem_listed he
   simp [go_sem] at hm
  clear hK K'
  have hc:Clear (w.alloc (boxed a b c)):=(Br.lk_new hc.lk (o:=boxed a b c) trivial).1.sight
  rw [show (w.at d).alloc (boxed a b c)=(w.alloc (boxed a b c)).at d from rfl]
  refine Br.mo rfl rfl hc (fun d K' hK=>?_) _
  go_simp
  refine hK _ _ ⟨rfl,?_⟩
  clear hK K'
  refine Br.liv_region_end (fun d=>?_) _
  refine Br.liv_seq (fun d=>?_) _
  refine Br.mc rfl (fun u=>stepG_block) (fun d=>?_) _
  refine Br.mc rfl (fun u=>stepG_loop) (fun d=>?_) _
  rw [← hbx];exact hd _
 exact fun bx hb _=>key bx hb (fun e=>hb (hfb bx e)) _ _ _ _ _ _ _ _ _ _ _ _ _ _ _ _ _ _ _ _ _ _ _ _ _ _ _ _ _ _ _ _ _ _ _ _ _ _ _
theorem good_with2 (hspec:PopSpec)(hpl:∀ xs:List Int,xs≠[]→(popL xs).length=xs.length - 1){fb:Option Nat}{xs:List Int}(hF:Fr fb pv H free xs)(hfb:∀ b,fb=some b→b∈pv)(num a b c:Int)(fr:Frame)(cs:List Frame)(k:Int × List Int→Bool→Strat)
  (hn:∀ e xs' H' free' go',Fr fb pv H' free' xs'→(∀ i∈pv,some i≠fb→H' i=H i)→Good' C n (k (e,xs') go') pv H' free' go' (G (fr.finish (.int .i64 e)) cs)) :
  Good' C n ((withM2 num xs.length a b c xs).then go k) pv H free go (G (Frame.enter Tryd.prog 81 #[pO C.o,.int .i64 num,.agg #[.int .i64 a,.int .i64 b,.int .i64 c],.int .i64 2] .normal) (fr::cs)):=by
 have key:=fun bx hb hbf=>with_loop2 (C:=C) (n:=n) hspec hpl num (.agg #[.int .i64 a,.int .i64 b,.int .i64 c]) fb fr cs k bx hb hbf H hn xs.length xs H free a b c (Nat.le_refl _) hF (fun _ _ _=>rfl) go
 unfold withTodo at key
 rw [with_enter]
 simp only [withBody,Tryd.f81,Option.getD_some,pO] at *
 apply good_box (X:=boxed a b c) trivial
 ·intro l K un w bx Stop hbx St hd d
  have hc:=St.clear
  refine Br.liv_seq (fun d=>?_) _
  refine Br.liv_region (fun d=>?_) _
  simp only [Br.rz,Br.ix,Nat.reduceAdd]
  refine Br.must_operW rfl rfl (by decide) (fun d K' hK=>?_) _
  go_simp
  refine hK _ _ ⟨Br.dl_alloc (fun e he=>?_),?_⟩
  ·have hm:=mem_listed he
   simp [go_sem] at hm
  clear hK K'
  have hc:Clear (w.alloc (boxed a b c)):=(Br.lk_new hc.lk (o:=boxed a b c) trivial).1.sight
  rw [show (w.at d).alloc (boxed a b c)=(w.alloc (boxed a b c)).at d from rfl]
  refine Br.mo rfl rfl hc (fun d K' hK=>?_) _
  go_simp
  refine hK _ _ ⟨rfl,?_⟩
  clear hK K'
  refine Br.liv_region_end (fun d=>?_) _
  refine Br.liv_seq (fun d=>?_) _
  refine Br.mc rfl (fun u=>stepG_block) (fun d=>?_) _
  refine Br.mc rfl (fun u=>stepG_loop) (fun d=>?_) _
  rw [← hbx];exact hd _
 exact fun bx hb _=>key bx hb (fun e=>hb (hfb bx e)) _ _ _ _ _ _ _ _ _ _ _ _ _ _ _ _ _ _ _ _ _ _ _ _ _ _ _ _ _ _ _ _ _ _ _ _ _ _ _
end
end Go.Proofs.YtcgabodkegcpgaaDoor
