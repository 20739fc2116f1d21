/- spawn. -/
import Derived.Test.YtcgabodkegcpgaaDoorOpp
import Derived.Test.YtcgabodkegcpgaaDoorOpr
import Derived.Test.YtcgabodkegcpgaaDoorOqa
import Derived.Conc.CompanyDraw
set_option linter.unusedVariables false
set_option linter.unusedSimpArgs false
set_option maxHeartbeats 20000000
set_option maxRecDepth 100000
namespace Go.Proofs.YtcgabodkegcpgaaDoor
open Go.Conc Go.RowKit
open Br (OpD KO SO SP sfO Lk Fit Must DL Liv Clear)
attribute [local go_sem ↓] Go.wp_at_zero Go.wp_at_succ
def Row (pv:List Nat)(H:Heap)(g:Nat)(t:TypeId)(n:Nat)(f:Nat→Value):Prop:=g∈pv∧∃ c,H g=.cells c t (0,0)∧c.size=n∧∀ i,i<n→c[i]?=some (f i)
theorem Row.is {pv:List Nat}{H:Heap}{g t n:Nat}{f:Nat→Value}(h:Row pv H g t n f){v:World}(hv:∀ i∈pv,i<v.heap.size∧(Br.Obj.sight (H i)→v.heap[i]?=some (H i))):v.rowIs g t n f:=by
 obtain ⟨h1,c,h2,h3,h4⟩:=h
 exact ⟨c,by rw [(hv g h1).2 (by rw [h2];trivial),h2],h3,h4⟩
def Slt (X:Obj)(K:Ker)(i:Nat):Prop:=∃ c t f,X=.cells c t f∧∀ j,j<20→c[j]?=some (sCell K (i*20+j))
theorem slt_of {w:World}{b:Nat}{K:Ker}{i:Nat}(h:w.rangeAt b 0 (cut (sCell K) (i*20) 20)):∃ X,w.heap[b]?=some X∧Slt X K i:=by
 have hc:=fun j (hj:j<20)=>cut_cell h hj
 have h0:=hc 0 (by omega)
 simp only [World.cell?] at h0 hc
 cases e:w.heap[b]? with
 | none=>rw [e] at h0;cases h0
 | some X =>
  rw [e] at h0 hc
  cases X with
  | cells c t f=>exact ⟨_,rfl,c,t,f,rfl,fun j hj=>by simpa using hc j hj⟩
  | _=>cases h0
section
variable {C:Ctx} {n:Nat} {pv:List Nat} {H:Heap} {free:Value} {go:Bool}
noncomputable def spawnR3:Code :=
 match Tryd.f86.body with
 | some (.seq _ (.seq (.seq _ (.block _ (.loop (.seq _ (.seq _ (.seq (.block _ (.seq r _)) _)))))) _))=>r
 | _=>.skip
theorem spawn_read {K0:Ker}{gF gS gD sb:Nat}(hK:K0.nS≤32)(hR:Row pv H gS 55 (K0.nS*20) (sCell K0)){i:Nat}(hi:i<K0.nS)(j6 j7 j8 j13 j14 j15 j16 j17 j18 j19 j20 j21 j22 j23 j24 j25 j26 j27 j28:Value)(v:World)(hv:∀ i∈pv,i<v.heap.size∧(Br.Obj.sight (H i)→v.heap[i]?=some (H i))) :
  spawnR3.wp Tryd.prog (fun e a' v'=>e=.normal∧∃ bs Hn,Gain pv H v v' bs Hn∧∃ bx,bs=[bx]∧a'=⟨#[pO C.o,stVal K0 gF gS gD,undef,.pointer (some ⟨sb,0,none⟩),.int .i64 0,.int .i64 0,.int .i64 i,.pointer (some ⟨bx,0,none⟩),j8,.pointer (some ⟨sb,1,none⟩),.slice (some ⟨gS,0,none⟩) K0.nS K0.nS,.int .i64 K0.nS,.int .i64 i,j13,.int .i64 i,.pointer (some ⟨gS,i*20,none⟩),.agg (cut (sCell K0) (i*20) 20).toArray,j17,j18,j19,j20,j21,j22,j23,j24,j25,j26,j27,j28,undef,undef],[]⟩∧Slt (Hn bx) K0 i) ⟨#[pO C.o,stVal K0 gF gS gD,undef,.pointer (some ⟨sb,0,none⟩),.int .i64 0,.int .i64 0,j6,j7,j8,.pointer (some ⟨sb,1,none⟩),.slice (some ⟨gS,0,none⟩) K0.nS K0.nS,.int .i64 K0.nS,.int .i64 i,j13,j14,j15,j16,j17,j18,j19,j20,j21,j22,j23,j24,j25,j26,j27,j28,undef,undef],[]⟩ v:=by
 have hrow:=hR.is hv
 have hlt:∀ i∈pv,i<v.heap.size:=fun i hi=>(hv i hi).1
 obtain ⟨cs,hcs⟩:∃ cs,cs=cut (sCell K0) (i*20) 20:=⟨_,rfl⟩
 have ei:Hid ((Tryd.prog.info? 55).map (·.size)=some cs.length):=by unfold Hid;rw [hcs,cut_len];kernel_rfl
 have ei2:Hid ((Tryd.prog.info? 55).map (·.size)=some cs.toArray.size):=by unfold Hid;rw [List.size_toArray,hcs,cut_len];kernel_rfl
 have o1:Hid (cs.toArray.all (·.oneCell')=true):=by unfold Hid;rw [hcs];exact cut_one K0 _ _
 have z1:Hid (cs.toArray.size=20):=by unfold Hid;rw [List.size_toArray,hcs,cut_len]
 have LA:Hid (v.rangeAt gS (i*20) cs):=by unfold Hid;rw [hcs];exact rowIs_range hrow (o:=i*20) (m:=20) (by omega)
 rw [← hcs]
 have Hcs:Hid (cs=cut (sCell K0) (i*20) 20):=hcs
 clear hcs
 have b1:(0:Int)≤(i:Int):=by omega
 have b2:(i:Int)<(K0.nS:Int):=by omega
 have Hlt:Hid (∀ i∈pv,i<v.heap.size):=hlt
 clear hlt hrow hR hv
 unfold spawnR3
 simp only [Tryd.f86]
 go_wp2_with (first|(refine wpList_load_mid rfl 55 _ rfl gS (i*20) rfl cs _ LA.out Tryd.underlying55 rfl ei.out ?_)|(refine wpList_store_any rfl 55 _ _ rfl _ 0 cs.toArray rfl rfl (by rw [z1.out];exact there_new1 _ _ _ _ (by rfl)) ei2.out o1.out ?_;intro W1 f1 f2 f3 f4))
 obtain ⟨X,hX,hS⟩:=slt_of (K:=K0) (i:=i) (b:=v.heap.size) (w:=W1) (by rw [← Hcs.out];exact f1)
 refine ⟨[v.heap.size],fun k=>if k=v.heap.size then X else H k,⟨?_,?_,?_,?_⟩,v.heap.size,rfl,rfl,by simpa using hS⟩
 ·rw [f3];simp
 ·intro k hk;rw [f2 k (by omega)];exact Below.heap_alloc _ _ _ hk
 ·intro b hb;obtain rfl:=List.mem_singleton.1 hb;exact ⟨Nat.le_refl _,by simpa using hX⟩
 ·intro i hi;have:=Hlt.out i hi;show (if i=v.heap.size then X else H i)=H i;rw [if_neg (by omega)]
theorem good_drop1 {s:Strat}{g:Goroutine}{b:Nat}(hb:b ∉ pv)(h:Good' C n s pv H free go g):Good' C n s ([b] ++ pv) H free go g:=by
 have:=good_drop (X:=H b) hb h
 rwa [Heap.set_self H rfl] at this
theorem Fr.same {fb:Option Nat}{xs:List Int}{H':Heap}(hk:∀ i∈pv,H' i=H i)(h:Fr fb pv H free xs):Fr fb pv H' free xs:=by
 obtain ⟨sl,h1,h2,h3,h4,h5⟩:=h
 exact ⟨sl,h1,h2,h3,h4,h5.imp id fun ⟨b',c,t,g1,g2,g3,g4⟩=>⟨b',c,t,g1,g2,(hk b' g2).trans g3,g4⟩⟩
theorem Row.same {g t m:Nat}{f:Nat→Value}{H':Heap}(h:Row pv H g t m f)(hk:H' g=H g):Row pv H' g t m f:=by
 obtain ⟨h1,c,h2,h3⟩:=h
 exact ⟨h1,c,hk.trans h2,h3⟩
def spawnM (K0:Ker):Nat→Nat→List Int→M ((Int × Int) × List Int)
 | 0,_,xs=>(yieldM 10).bind fun e=>M.pure ((0,e),xs)
 | f+1,i,xs=>if K0.S i 0=0 then (withM1 5 xs.length i 0 0 xs).bind fun z=>if z.1=7 then spawnM K0 f (i+1) z.2 else M.pure (((i:Int),z.1),z.2) else spawnM K0 f (i+1) xs
noncomputable def spawnRest:List Item :=
 match Tryd.f86.body with
 | some (.seq _ (.seq (.seq _ (.block i (.loop c))) r))=>[.code c,.inLoop c,.inBlock i,.code r]
 | _=>[]
theorem spawn_loop (hspec:PopSpec)(hpl:∀ xs:List Int,xs≠[]→(popL xs).length=xs.length - 1)(K0:Ker)(gF gS gD sb:Nat)(hK:K0.nS≤32)(fb:Option Nat)(hfb:∀ b,fb=some b→b∈pv)(hgf:some gS≠fb)(H0:Heap)(hR:Row pv H0 gS 55 (K0.nS*20) (sCell K0))(fr:Frame)(cs:List Frame)(k:(Int × Int) × List Int→Bool→Strat)
  (hn:∀ x e xs' H' free' go',Fr fb pv H' free' xs'→(∀ i∈pv,some i≠fb→H' i=H0 i)→Good' C n (k ((x,e),xs') go') pv H' free' go' (G (fr.finish (.tuple #[.int .i64 x,.int .i64 e])) cs)) :
  ∀ (f i:Nat),i+f=K0.nS→∀ (xs:List Int) (H:Heap) (free:Value),Fr fb pv H free xs→(∀ i∈pv,some i≠fb→H i=H0 i)→∀ (go:Bool) (j6 j7 j8 j13 j14 j15 j16 j17 j18 j19 j20 j21 j22 j23 j24 j25 j26 j27 j28:Value),
  Good' C n ((spawnM K0 f i xs).then go k) pv H free go (G ((base 86).at ⟨#[pO C.o,stVal K0 gF gS gD,undef,.pointer (some ⟨sb,0,none⟩),.int .i64 0,.int .i64 0,j6,j7,j8,.pointer (some ⟨sb,1,none⟩),.slice (some ⟨gS,0,none⟩) K0.nS K0.nS,.int .i64 K0.nS,.int .i64 i,j13,j14,j15,j16,j17,j18,j19,j20,j21,j22,j23,j24,j25,j26,j27,j28,undef,undef],[]⟩ spawnRest) (fr::cs)):=by
 intro f
 induction f with
 | zero =>
  intro i hi xs H free hF hH go j6 j7 j8 j13 j14 j15 j16 j17 j18 j19 j20 j21 j22 j23 j24 j25 j26 j27 j28
  obtain rfl:i=K0.nS:=by omega
  unfold spawnM
  rw [M.bind_then]
  unfold spawnRest
  simp only [Tryd.f86,pO]
  apply good_still
  ·intro l K un w Stop St hd d
   have hc:=St.clear
   refine Br.liv_seq (fun d=>?_) _
   refine Br.liv_region (fun d=>?_) _
   simp only [Br.rz,Br.ix,Nat.reduceAdd]
   refine Br.mo rfl rfl hc (fun d K' hK=>?_) _
   go_simp
   refine hK _ _ ⟨rfl,?_⟩
   clear hK K'
   refine Br.liv_region_end (fun d=>?_) _
   refine Br.liv_seq (fun d=>?_) _
   refine Br.mc rfl (fun u=>stepG_cond (t:=false) (by simp [Act.eval])) (fun d=>?_) _
   simp only [if_false,Bool.false_eq_true]
   refine Br.mc rfl (fun u=>stepG_exit rfl) (fun d=>?_) _
   refine Br.liv_seq (fun d=>?_) _
   refine Br.liv_region (fun d=>?_) _
   simp only [Br.rz,Br.ix,Nat.reduceAdd]
   refine Br.mo rfl rfl hc (fun d K' hK=>?_) _
   go_simp
   refine hK _ _ ⟨rfl,?_⟩
   clear hK K'
   refine Br.mc rfl (fun u=>stepG_call rfl rfl (by decide) rfl Tryd.func93 rfl rfl (vs:=#[pO C.o,.int .i64 10]) (by simp [Act.eval]) u) (fun d=>?_) _
   exact hd _
  refine good_yield 10 _ _ _ (fun e go'=>?_)
  rw [M.pure_then,Frame.finish_at]
  apply good_still
  ·intro l K un w Stop St hd d
   have hc:=St.clear
   go_simp
   refine Br.mo rfl rfl hc (fun d K' hK=>?_) _
   go_simp
   refine hK _ _ ⟨rfl,?_⟩
   clear hK K'
   refine Br.mo rfl rfl hc (fun d K' hK=>?_) _
   go_simp
   refine hK _ _ ⟨rfl,?_⟩
   clear hK K'
   refine Br.liv_region_end (fun d=>?_) _
   refine Br.liv_ret (fun d=>?_) _
   exact Br.liv_leave (v:=.tuple #[.int .i64 0,.int .i64 e]) rfl rfl Tryd.func86 (resultsC_tmp2 (t:=4) (u:=5) rfl _) hd _
   done
  exact hn 0 e xs H free go' hF hH
 | succ f ih =>
  intro i hi xs H free hF hH go j6 j7 j8 j13 j14 j15 j16 j17 j18 j19 j20 j21 j22 j23 j24 j25 j26 j27 j28
  have hlt:i<K0.nS:=by omega
  have hlt':(i:Int)<(K0.nS:Int):=by omega
  have key:=fun (j6 j7 j8 j13 j14 j15 j16 j17 j18 j19 j20 j21 j22 j23 j24 j25 j26 j27 j28:Value) v hv=>spawn_read (C:=C) (pv:=pv) (H:=H) (gF:=gF) (gD:=gD) (sb:=sb) hK (hR.same (hH gS hR.1 hgf)) hlt j6 j7 j8 j13 j14 j15 j16 j17 j18 j19 j20 j21 j22 j23 j24 j25 j26 j27 j28 v hv
  unfold spawnM
  unfold spawnRest at *
  unfold spawnR3 at key
  simp only [Tryd.f86,pO] at *
  apply good_still
  ·intro l K un w Stop St hd d
   have hc:=St.clear
   refine Br.liv_seq (fun d=>?_) _
   refine Br.liv_region (fun d=>?_) _
   simp only [Br.rz,Br.ix,Nat.reduceAdd]
   refine Br.mo rfl rfl hc (fun d K' hK=>?_) _
   go_simp
   refine hK _ _ ⟨rfl,?_⟩
   clear hK K'
   refine Br.liv_region_end (fun d=>?_) _
   refine Br.liv_seq (fun d=>?_) _
   refine Br.mc rfl (fun u=>stepG_cond (t:=true) (by simp [Act.eval,hlt])) (fun d=>?_) _
   simp only [if_true]
   refine Br.liv_skip (fun d=>?_) _
   refine Br.liv_seq (fun d=>?_) _
   refine Br.mc rfl (fun u=>stepG_block) (fun d=>?_) _
   refine Br.liv_seq (fun d=>?_) _
   exact hd _
  refine good_code (by kernel_rfl) rfl rfl ⟨_,Tryd.func86⟩ (fun v hv _=>key _ _ _ _ _ _ _ _ _ _ _ _ _ _ _ _ _ _ _ v hv) _ _ ?_
  rintro a' bs Hn ⟨bx,rfl,rfl,c,t,fz,hX,hc⟩ hnew hkeep
  have hbx:=(hnew bx (List.mem_singleton.2 rfl)).1
  have hc0:c[0]?=some (.int .i64 (K0.S i 0)):=by rw [hc 0 (by omega),sCell_num K0 i 0 (by omega) (by omega)]
  have hFn:=Fr.same hkeep hF
  have hHn:∀ j∈pv,some j≠fb→Hn j=H0 j:=fun j hj hf=>(hkeep j hj).trans (hH j hj hf)
  apply good_still
  ·intro l K un w Stop St hd d
   have hc:=St.clear
   refine Br.liv_seq (fun d=>?_) _
   refine Br.liv_seq (fun d=>?_) _
   refine Br.liv_region (fun d=>?_) _
   simp only [Br.rz,Br.ix,Nat.reduceAdd]
   refine Br.mo rfl rfl hc (fun d K' hK=>?_) _
   go_simp
   refine hK _ _ ⟨rfl,?_⟩
   clear hK K'
   refine Br.mo rfl rfl hc (fun d K' hK=>?_) _
   have e0:(w.at d).cell? ⟨bx,0,none⟩=some (.int .i64 (K0.S i 0)):=St.cell (List.mem_append_left _ (List.mem_singleton.2 rfl)) hX hc0
   go_simp
   refine hK _ _ ⟨rfl,?_⟩
   clear hK K'
   refine Br.mo rfl rfl hc (fun d K' hK=>?_) _
   go_simp
   refine hK _ _ ⟨rfl,?_⟩
   clear hK K'
   refine Br.liv_region_end (fun d=>?_) _
   exact hd _
  refine good_drop1 hbx ?_
  by_cases hz:K0.S i 0=0
  ·rw [if_pos hz,M.bind_then]
   have hb:(K0.S i 0 != 0)=false:=by simp [hz]
   apply good_still
   ·intro l K un w Stop St hd d
    have hc:=St.clear
    refine Br.mc rfl (fun u=>stepG_cond (t:=false) (by simpa [Act.eval] using hb)) (fun d=>?_) _
    simp only [if_false,Bool.false_eq_true]
    refine Br.liv_skip (fun d=>?_) _
    refine Br.liv_seq (fun d=>?_) _
    refine Br.liv_region (fun d=>?_) _
    simp only [Br.rz,Br.ix,Nat.reduceAdd]
    refine Br.mo rfl rfl hc (fun d K' hK=>?_) _
    go_simp
    refine hK _ _ ⟨rfl,?_⟩
    clear hK K'
    refine Br.mo rfl rfl hc (fun d K' hK=>?_) _
    go_simp
    refine hK _ _ ⟨rfl,?_⟩
    clear hK K'
    refine Br.mo rfl rfl hc (fun d K' hK=>?_) _
    go_simp
    refine hK _ _ ⟨rfl,?_⟩
    clear hK K'
    refine Br.mc rfl (fun u=>stepG_call rfl rfl (by decide) rfl Tryd.func81 rfl rfl (vs:=#[pO C.o,.int .i64 5,.agg #[.int .i64 i,.int .i64 0,.int .i64 0],.int .i64 1]) (by simp [Act.eval]) u) (fun d=>?_) _
    exact hd _
   refine good_with1 hspec hpl hFn hfb 5 i 0 0 _ _ _ (fun e xs' H' free' go' hF' hH'=>?_)
   have hHH:∀ i∈pv,some i≠fb→H' i=H0 i:=fun i hi hf=>(hH' i hi hf).trans (hHn i hi hf)
   rw [Frame.finish_at]
   apply good_still
   ·intro l K un w Stop St hd d
    have hc:=St.clear
    go_simp
    refine Br.mo rfl rfl hc (fun d K' hK=>?_) _
    go_simp
    refine hK _ _ ⟨rfl,?_⟩
    clear hK K'
    refine Br.liv_region_end (fun d=>?_) _
    refine Br.liv_seq (fun d=>?_) _
    refine Br.liv_region (fun d=>?_) _
    simp only [Br.rz,Br.ix,Nat.reduceAdd]
    refine Br.mo rfl rfl hc (fun d K' hK=>?_) _
    go_simp
    refine hK _ _ ⟨rfl,?_⟩
    clear hK K'
    refine Br.mo rfl rfl hc (fun d K' hK=>?_) _
    go_simp
    refine hK _ _ ⟨rfl,?_⟩
    clear hK K'
    refine Br.liv_region_end (fun d=>?_) _
    exact hd _
   by_cases he:e=7
   ·subst he
    rw [if_pos rfl]
    apply good_still
    ·intro l K un w Stop St hd d
     have hc:=St.clear
     refine Br.mc rfl (fun u=>stepG_cond (t:=false) rfl) (fun d=>?_) _
     simp only [if_true,if_false,Bool.false_eq_true,↓reduceIte]
     refine Br.liv_skip (fun d=>?_) _
     refine Br.mc rfl (fun u=>stepG_inBlock) (fun d=>?_) _
     refine Br.liv_region (fun d=>?_) _
     simp only [Br.rz,Br.ix,Nat.reduceAdd]
     refine Br.mo rfl rfl hc (fun d K' hK=>?_) _
     go_simp
     refine hK _ _ ⟨rfl,?_⟩
     clear hK K'
     refine Br.mo rfl rfl hc (fun d K' hK=>?_) _
     go_simp
     refine hK _ _ ⟨rfl,?_⟩
     clear hK K'
     refine Br.liv_region_end (fun d=>?_) _
     refine Br.mc rfl (fun u=>stepG_inLoop) (fun d=>?_) _
     exact hd _
    rw [wrap_small (by omega) (by omega),show ((i:Int)+1)=((i+1:Nat):Int) from by simp]
    exact ih (i+1) (by omega) xs' H' free' hF' hHH go' _ _ _ _ _ _ _ _ _ _ _ _ _ _ _ _ _ _ _
   ·rw [if_neg he,M.pure_then]
    have hb:(e != 7)=true:=by simp [he]
    apply good_still
    ·intro l K un w Stop St hd d
     have hc:=St.clear
     refine Br.mc rfl (fun u=>stepG_cond (t:=true) (by simpa [Act.eval] using hb)) (fun d=>?_) _
     simp only [if_true]
     refine Br.liv_seq (fun d=>?_) _
     refine Br.liv_region (fun d=>?_) _
     simp only [Br.rz,Br.ix,Nat.reduceAdd]
     refine Br.mo rfl rfl hc (fun d K' hK=>?_) _
     go_simp
     refine hK _ _ ⟨rfl,?_⟩
     clear hK K'
     refine Br.mo rfl rfl hc (fun d K' hK=>?_) _
     go_simp
     refine hK _ _ ⟨rfl,?_⟩
     clear hK K'
     refine Br.mo rfl rfl hc (fun d K' hK=>?_) _
     go_simp
     refine hK _ _ ⟨rfl,?_⟩
     clear hK K'
     refine Br.mo rfl rfl hc (fun d K' hK=>?_) _
     go_simp
     refine hK _ _ ⟨rfl,?_⟩
     clear hK K'
     refine Br.liv_region_end (fun d=>?_) _
     refine Br.liv_ret (fun d=>?_) _
     exact Br.liv_leave (v:=.tuple #[.int .i64 i,.int .i64 e]) rfl rfl Tryd.func86 (resultsC_tmp2 (t:=4) (u:=5) rfl _) hd _
     done
    exact hn i e xs' H' free' go' hF' hHH
  ·rw [if_neg hz]
   have hb:(K0.S i 0 != 0)=true:=by simp [hz]
   apply good_still
   ·intro l K un w Stop St hd d
    have hc:=St.clear
    refine Br.mc rfl (fun u=>stepG_cond (t:=true) (by simpa [Act.eval] using hb)) (fun d=>?_) _
    simp only [if_true]
    refine Br.mc rfl (fun u=>stepG_exit rfl) (fun d=>?_) _
    refine Br.liv_region (fun d=>?_) _
    simp only [Br.rz,Br.ix,Nat.reduceAdd]
    refine Br.mo rfl rfl hc (fun d K' hK=>?_) _
    go_simp
    refine hK _ _ ⟨rfl,?_⟩
    clear hK K'
    refine Br.mo rfl rfl hc (fun d K' hK=>?_) _
    go_simp
    refine hK _ _ ⟨rfl,?_⟩
    clear hK K'
    refine Br.liv_region_end (fun d=>?_) _
    refine Br.mc rfl (fun u=>stepG_inLoop) (fun d=>?_) _
    exact hd _
   rw [wrap_small (by omega) (by omega),show ((i:Int)+1)=((i+1:Nat):Int) from by simp]
   exact ih (i+1) (by omega) xs Hn free hFn hHn go _ _ _ _ _ _ _ _ _ _ _ _ _ _ _ _ _ _ _
noncomputable def spawnBody:Code:=(Tryd.f86.body).getD .skip
theorem spawn_enter (o:OpD)(y:Value):Frame.enter Tryd.prog 86 #[pO o,y] .normal=(base 86).at ⟨#[pO o,y,undef,undef,undef,undef,undef,undef,undef,undef,undef,undef,undef,undef,undef,undef,undef,undef,undef,undef,undef,undef,undef,undef,undef,undef,undef,undef,undef,undef,undef],[]⟩ [.code spawnBody]:=by
 rw [enter_at (c:=spawnBody) _ Tryd.func86 rfl]
 refine congrArg (fun t=>(base 86).at ⟨t,[]⟩ [.code spawnBody]) ?_
 kernel_rfl
abbrev boxSt (K:Ker)(gF gS gD:Nat):Obj:=.cells #[.slice (some ⟨gF,0,none⟩) K.nF K.nF,.slice (some ⟨gS,0,none⟩) K.nS K.nS,.slice (some ⟨gD,0,none⟩) K.nD K.nD] 45 (0,0)
theorem good_spawn (hspec:PopSpec)(hpl:∀ xs:List Int,xs≠[]→(popL xs).length=xs.length - 1)(K0:Ker)(gF gS gD:Nat)(hK:K0.nS≤32){fb:Option Nat}(hfb:∀ b,fb=some b→b∈pv)(hgf:some gS≠fb)(hR:Row pv H gS 55 (K0.nS*20) (sCell K0)){xs:List Int}(hF:Fr fb pv H free xs)(fr:Frame)(cs:List Frame)(k:(Int × Int) × List Int→Bool→Strat)
  (hn:∀ x e xs' H' free' go',Fr fb pv H' free' xs'→(∀ i∈pv,some i≠fb→H' i=H i)→Good' C n (k ((x,e),xs') go') pv H' free' go' (G (fr.finish (.tuple #[.int .i64 x,.int .i64 e])) cs)) :
  Good' C n ((spawnM K0 K0.nS 0 xs).then go k) pv H free go (G (Frame.enter Tryd.prog 86 #[pO C.o,stVal K0 gF gS gD] .normal) (fr::cs)):=by
 have key:=fun sb=>spawn_loop (C:=C) (n:=n) hspec hpl K0 gF gS gD sb hK fb hfb hgf H hR fr cs k hn K0.nS 0 (by omega) xs H free hF (fun _ _ _=>rfl) go
 unfold spawnRest at key
 rw [spawn_enter]
 simp only [spawnBody,Tryd.f86,Option.getD_some,pO] at *
 unfold stVal at *
 apply good_box (X:=boxSt K0 gF gS gD) trivial
 ·intro l K un w bx Stop hbx St hd d
  have hc:=St.clear
  refine Br.liv_seq (fun d=>?_) _
  refine Br.liv_region (fun d=>?_) _
  simp only [Br.rz,Br.ix,Nat.reduceAdd]
  refine Br.must_operW rfl rfl (by decide) (fun d K' hK=>?_) _
  go_simp
  refine hK _ _ ⟨Br.dl_alloc (fun e he=>?_),?_⟩
  ·have hm:=mem_listed he
   simp [go_sem] at hm
  clear hK K'
  have hc:Clear (w.alloc (boxSt K0 gF gS gD)):=(Br.lk_new hc.lk (o:=boxSt K0 gF gS gD) trivial).1.sight
  rw [show (w.at d).alloc (boxSt K0 gF gS gD)=(w.alloc (boxSt K0 gF gS gD)).at d from rfl]
  refine Br.mo rfl rfl hc (fun d K' hK=>?_) _
  go_simp
  refine hK _ _ ⟨rfl,?_⟩
  clear hK K'
  refine Br.mo rfl rfl hc (fun d K' hK=>?_) _
  go_simp
  refine hK _ _ ⟨rfl,?_⟩
  clear hK K'
  refine Br.liv_region_end (fun d=>?_) _
  rw [← hbx];exact hd _
 intro bx hb hb'
 apply good_still
 ·intro l K un w Stop St hd d
  have hc:=St.clear
  refine Br.liv_seq (fun d=>?_) _
  refine Br.liv_seq (fun d=>?_) _
  refine Br.liv_region (fun d=>?_) _
  simp only [Br.rz,Br.ix,Nat.reduceAdd]
  refine Br.mo rfl rfl hc (fun d K' hK=>?_) _
  go_simp
  refine hK _ _ ⟨rfl,?_⟩
  clear hK K'
  refine Br.mo rfl rfl hc (fun d K' hK=>?_) _
  have e1:(w.at d).cell? ⟨bx,1,none⟩=some (.slice (some ⟨gS,0,none⟩) K0.nS K0.nS):=St.cell (List.mem_cons_self ..) (Heap.set_same _ _ _) rfl
  go_simp
  refine hK _ _ ⟨rfl,?_⟩
  clear hK K'
  refine Br.mo rfl rfl hc (fun d K' hK=>?_) _
  go_simp
  refine hK _ _ ⟨rfl,?_⟩
  clear hK K'
  refine Br.mo rfl rfl hc (fun d K' hK=>?_) _
  go_simp
  refine hK _ _ ⟨rfl,?_⟩
  clear hK K'
  refine Br.liv_region_end (fun d=>?_) _
  refine Br.mc rfl (fun u=>stepG_block) (fun d=>?_) _
  refine Br.mc rfl (fun u=>stepG_loop) (fun d=>?_) _
  exact hd _
 refine good_drop hb ?_
 exact key bx _ _ _ _ _ _ _ _ _ _ _ _ _ _ _ _ _ _ _
end
def slotV (K:Ker)(p:Nat):Array Value:=#[.int .i64 (K.S p 0),.int .i64 (K.S p 1),.int .i64 (K.S p 2),.int .i64 (K.S p 3),.bool (K.B p 4),.int .i64 (K.S p 5),.bool (K.B p 6),.int .i64 (K.S p 7),.bool (K.B p 8),.int .i64 (K.S p 9),.bool (K.B p 10),.int .i64 (K.S p 11),.bool (K.B p 12),.int .i64 (K.S p 13),.bool (K.B p 14),.int .i64 (K.S p 15),.bool (K.B p 16),.int .i64 (K.S p 17),.bool (K.B p 18),.int .i64 (K.S p 19)]
theorem sCell_flag (K:Ker)(p j:Nat)(hj:j<20)(h:4≤j∧j≤18∧j % 2=0):sCell K (p*20+j)=.bool (K.B p j):=by
 unfold sCell
 rw [if_pos (by omega),show (p*20+j) / 20=p by omega,show (p*20+j) % 20=j by omega]
theorem cut_slot (K:Ker)(p:Nat):(cut (sCell K) (p*20) 20).toArray=slotV K p:=by
 unfold cut slotV
 simp only [List.range,List.range.loop,List.map]
 rw [show sCell K (p*20+0)=_ from sCell_num K p 0 (by omega) (by omega)]
 rw [show sCell K (p*20+1)=_ from sCell_num K p 1 (by omega) (by omega)]
 rw [show sCell K (p*20+2)=_ from sCell_num K p 2 (by omega) (by omega)]
 rw [show sCell K (p*20+3)=_ from sCell_num K p 3 (by omega) (by omega)]
 rw [show sCell K (p*20+4)=_ from sCell_flag K p 4 (by omega) (by omega)]
 rw [show sCell K (p*20+5)=_ from sCell_num K p 5 (by omega) (by omega)]
 rw [show sCell K (p*20+6)=_ from sCell_flag K p 6 (by omega) (by omega)]
 rw [show sCell K (p*20+7)=_ from sCell_num K p 7 (by omega) (by omega)]
 rw [show sCell K (p*20+8)=_ from sCell_flag K p 8 (by omega) (by omega)]
 rw [show sCell K (p*20+9)=_ from sCell_num K p 9 (by omega) (by omega)]
 rw [show sCell K (p*20+10)=_ from sCell_flag K p 10 (by omega) (by omega)]
 rw [show sCell K (p*20+11)=_ from sCell_num K p 11 (by omega) (by omega)]
 rw [show sCell K (p*20+12)=_ from sCell_flag K p 12 (by omega) (by omega)]
 rw [show sCell K (p*20+13)=_ from sCell_num K p 13 (by omega) (by omega)]
 rw [show sCell K (p*20+14)=_ from sCell_flag K p 14 (by omega) (by omega)]
 rw [show sCell K (p*20+15)=_ from sCell_num K p 15 (by omega) (by omega)]
 rw [show sCell K (p*20+16)=_ from sCell_flag K p 16 (by omega) (by omega)]
 rw [show sCell K (p*20+17)=_ from sCell_num K p 17 (by omega) (by omega)]
 rw [show sCell K (p*20+18)=_ from sCell_flag K p 18 (by omega) (by omega)]
 rw [show sCell K (p*20+19)=_ from sCell_num K p 19 (by omega) (by omega)]
def pagesL (K:Ker)(p:Nat):List Int:=heldL (fun j=>K.S p (3+j*2)) 4
def filesL (K:Ker)(p:Nat):List Int:=heldL (fun j=>K.S p (11+j*2)) 4
theorem pages_slot (K:Ker)(p:Nat)(w:World):Calls Tryd.prog 88 #[.agg (slotV K p)] w fun e w'=>∃ V,e=.returned V∧Lis w w' V (pagesL K p) :=
 pages_any w _ _ _ _ _ _ _ _ _ _ _ _ (fun j=>K.S p (3+j*2)) (K.B p 4) (K.B p 6) (K.B p 8) (K.B p 10)
theorem files_slot (K:Ker)(p:Nat)(w:World):Calls Tryd.prog 90 #[.agg (slotV K p)] w fun e w'=>∃ V,e=.returned V∧Lis w w' V (filesL K p) :=
 files_any w _ _ _ _ _ _ _ _ _ _ _ _ (fun j=>K.S p (11+j*2)) (K.B p 12) (K.B p 14) (K.B p 16) (K.B p 18)
section
variable {C:Ctx} {n:Nat} {s:Strat} {pv:List Nat} {H:Heap} {free:Value} {go:Bool}
theorem good_lis {f:FuncId}(hf:Br.Sg f=true){args:Array Value}{xs:List Int}(hx:xs.length≤40)(hspec:∀ v:World,(∀ i∈pv,i<v.heap.size∧(Br.Obj.sight (H i)→v.heap[i]?=some (H i)))→Calls Tryd.prog f args v (fun e v'=>∃ V,e=.returned V∧Lis v v' V xs))(fr:Frame)(cs:List Frame)
  (hn:∀ (sl:Sl) bs Hn,sl.xs=xs→sl.xs.length≤sl.cap→(sl.blk=none∨∃ b,sl.blk=some b∧b∈bs)→sl.ok (bs ++ pv) Hn→(∀ b∈bs,b ∉ pv∧b≠C.o.bo)→(∀ i∈pv,Hn i=H i)→Good' C n s (bs ++ pv) Hn free go (G (fr.finish sl.val) cs)) :
  Good' C n s pv H free go (G (Frame.enter Tryd.prog f args .normal) (fr::cs)):=by
 refine good_fun hf (R:=fun x bs Hn=>∃ sl:Sl,x=sl.val∧sl.xs=xs∧sl.xs.length≤sl.cap∧(sl.blk=none∨∃ b,sl.blk=some b∧b∈bs)∧sl.ok (bs ++ pv) Hn) (fun v hv=>(hspec v hv).mono ?_) fr cs ?_
 ·rintro e v' ⟨V,rfl,L⟩
  have hlt:∀ i∈pv,i<v.heap.size:=fun i hi=>(hv i hi).1
  obtain ⟨o1,o2|⟨g,cap,cur,rfl,hg,hc,h1,h2,h3,h4⟩⟩:=L.own
  ·obtain ⟨rfl,h0⟩:=o2
   obtain rfl:xs=[]:=List.length_eq_zero_iff.1 h0
   exact ⟨_,[],H,rfl,⟨L.bel.size,L.bel.block,fun b hb=>(by cases hb),fun _ _=>rfl⟩,⟨none,0,[]⟩,rfl,rfl,Nat.le_refl _,.inl rfl,by simp,.inl rfl⟩
  ·refine ⟨_,[g],fun k=>if k=g then .cells cur 3 (0,0) else H k,rfl,⟨L.bel.size,L.bel.block,fun b hb=>?_,fun i hi=>?_⟩,⟨some g,cap,xs⟩,by simp [Sl.val],rfl,h1,(.inr ⟨g,rfl,List.mem_singleton.2 rfl⟩),(by show xs.length≤min 40 cap;omega),.inr ⟨g,cur,3,rfl,by simp,by simp,fun i x hi=>?_⟩⟩
   ·obtain rfl:=List.mem_singleton.1 hb
    exact ⟨hg,by simpa using hc⟩
   ·have:=hlt i hi
    show (if i=g then _ else H i)=H i
    rw [if_neg (by omega)]
   ·have hi':xs[i]?=some x:=hi
    have hl:i<xs.length:=(List.getElem?_eq_some_iff.1 hi').1
    have e1:(ints xs)[i]?=some (.int .i64 x):=by simp [ints,hi']
    rw [← h4,List.getElem?_take,if_pos (by omega)] at e1
    simpa using e1
 ·rintro x bs Hn ⟨sl,rfl,h1,h2,h3,h4⟩ hb hk
  exact hn sl bs Hn h1 h2 h3 h4 hb hk
end
end Go.Proofs.YtcgabodkegcpgaaDoor
namespace Go.Proofs.YtcgabodkegcpgaaDoor.Br
open Go.Conc
def unL (ops:Array Oper)(listed:Array Bool):List Nat:=(List.range ops.size).filter fun i=>!listed.getD i true
def Ord (ops:Array Oper)(fuel:Nat)(listed:Array Bool)(rest:List Nat):Prop:=(unL ops listed).length≤fuel∧∃ t,rest=Region.linearise.go .any ops fuel t listed []
theorem ready_un {ops:Array Oper}{listed:Array Bool}{i:Nat}(h:i∈Region.ready .any ops listed):i∈unL ops listed:=by
 unfold Region.ready at h
 unfold unL
 rw [List.mem_filter] at h ⊢
 refine ⟨h.1,?_⟩
 have:=h.2
 simp only [Bool.and_eq_true] at this
 exact this.1
theorem unL_set {ops:Array Oper}{listed:Array Bool}{i:Nat}(h:i∈unL ops listed):(unL ops (listed.setIfInBounds i true)).length+1=(unL ops listed).length:=by
 have hi:listed.getD i true=false:=by
  have:=(List.mem_filter.1 h).2
  simpa using this
 have hlt:i<listed.size:=by
  by_cases e:i<listed.size
  ·exact e
  ·rw [Array.getD_eq_getD_getElem?,Array.getElem?_eq_none (by omega)] at hi;cases hi
 have e:unL ops (listed.setIfInBounds i true)=(unL ops listed).erase i:=by
  have nd:(unL ops listed).Nodup:=List.Pairwise.filter _ List.nodup_range
  rw [List.Nodup.erase_eq_filter nd]
  unfold unL
  rw [List.filter_filter]
  refine List.filter_congr fun j _=>?_
  rw [Array.getD_eq_getD_getElem?,Array.getD_eq_getD_getElem?,Array.getElem?_setIfInBounds]
  by_cases e:i=j
  ·subst e;simp [hlt]
  ·have:(j != i)=true:=by simp [Ne.symm e]
   simp [e,this]
 rw [e,List.length_erase_of_mem h]
 have:0<(unL ops listed).length:=List.length_pos_of_mem h
 omega
theorem Ord.next {ops:Array Oper}{fuel:Nat}{listed:Array Bool}{rest:List Nat}(h:Ord ops fuel listed rest) :
  (rest=[]∧Region.ready .any ops listed=[])∨∃ f i rest',i∈Region.ready .any ops listed∧rest=i::rest'∧fuel=f+1∧Ord ops f (listed.setIfInBounds i true) rest':=by
 obtain ⟨hl,t,rfl⟩:=h
 cases fuel with
 | zero =>
  refine .inl ⟨by simp [Region.linearise.go],?_⟩
  rw [List.eq_nil_iff_forall_not_mem]
  intro i hi
  have:=List.length_pos_of_mem (ready_un hi)
  omega
 | succ f =>
  simp only [Region.linearise.go]
  cases hi:(Region.ready .any ops listed)[t % (Region.ready .any ops listed).length]? with
  | none =>
   have hnil:Region.ready .any ops listed=[]:=by
    cases hr:Region.ready .any ops listed with
    | nil=>rfl
    | cons x xs =>
     rw [hr] at hi
     have hlt:t % (x::xs).length<(x::xs).length:=Nat.mod_lt _ (by simp)
     simp at hi
     simp at hlt
     omega
   refine .inl ⟨?_,hnil⟩
   have hi':=hi
   unfold Region.ready at hi'
   rw [hi'];rfl
  | some i =>
   have hm:i∈Region.ready .any ops listed:=List.mem_of_getElem? hi
   have hu:=unL_set (ready_un hm)
   refine .inr ⟨f,i,Region.linearise.go .any ops f (t / (Region.ready .any ops listed).length) (listed.setIfInBounds i true) [],hm,?_,rfl,by omega,_,rfl⟩
   have hi':=hi
   unfold Region.ready at hi'
   rw [hi']
   show Region.linearise.go .any ops f (t / (Region.ready .any ops listed).length) (listed.setIfInBounds i true) [i]=_
   rw [linearise_go_acc,List.reverse_singleton,List.singleton_append]
theorem ord_any {ops:Array Oper}{J:Act→List Nat→Prop}{Ag:Array Bool→Act→Prop}
  (hstep:∀ f listed a i rest,i∈Region.ready .any ops listed→Ag listed a→Ord ops f (listed.setIfInBounds i true) rest→(∀ a',Ag (listed.setIfInBounds i true) a'→J a' rest)→J a (i::rest))
  (hdone:∀ listed a,Region.ready .any ops listed=[]→Ag listed a→J a []) :
  ∀ fuel listed a rest,Ord ops fuel listed rest→Ag listed a→J a rest:=by
 intro fuel
 induction fuel with
 | zero =>
  intro listed a rest hO hA
  rcases hO.next with ⟨rfl,h⟩|⟨f,i,rest',hi,rfl,hf,hO'⟩
  ·exact hdone listed a h hA
  ·cases hf
 | succ f ih =>
  intro listed a rest hO hA
  rcases hO.next with ⟨rfl,h⟩|⟨f',i,rest',hi,rfl,hf,hO'⟩
  ·exact hdone listed a h hA
  ·obtain rfl:f=f':=by omega
   exact hstep f listed a i rest' hi hA hO' (fun a' hA'=>ih _ a' rest' hO' hA')
theorem ready_lt {ops:Array Oper}{listed:Array Bool}{i:Nat}(h:i∈Region.ready .any ops listed):i<ops.size:=List.mem_range.1 (List.mem_filter.1 h).1
theorem ready_not {ops:Array Oper}{listed:Array Bool}{i:Nat}(h:i∈Region.ready .any ops listed):listed.getD i true=false:=by
 have:=(List.mem_filter.1 (ready_un h)).2
 simpa using this
theorem ready_after {ops:Array Oper}{listed:Array Bool}{i:Nat}{o:Oper}(h:i∈Region.ready .any ops listed)(ho:ops[i]?=some o){j:Nat}(hj:(o.after.any fun e=>Region.binds .any e && e.on == j)=true):listed.getD j false=true:=by
 have:=(List.mem_filter.1 h).2
 simp only [Bool.and_eq_true,ho,Option.map_some,Option.getD_some,Array.all_eq_true_iff_forall_mem] at this
 rw [Array.any_eq_true'] at hj
 obtain ⟨e,he,h1⟩:=hj
 simp only [Bool.and_eq_true,beq_iff_eq] at h1
 obtain ⟨h1,rfl⟩:=h1
 have h2:=this.2 e he
 rw [h1] at h2
 simpa using h2
theorem all_listed {ops:Array Oper}{listed:Array Bool}(hs:(List.range ops.size).all (fun i=>((ops[i]?).map (·.after.all fun e=>!Region.binds .any e || decide (e.on<i))).getD true)=true)(hz:listed.size=ops.size)(h:Region.ready .any ops listed=[]):∀ i,i<ops.size→listed.getD i false=true:=by
 intro i
 induction i using Nat.strongRecOn with
 | _ i ih =>
  intro hi
  rw [List.all_eq_true] at hs
  have h1:=hs i (List.mem_range.2 hi)
  have ho:ops[i]?=some ops[i]:=Array.getElem?_eq_getElem hi
  rw [ho] at h1
  simp only [Option.map_some,Option.getD_some,Array.all_eq_true_iff_forall_mem] at h1
  have h2:i ∉ Region.ready .any ops listed:=by rw [h];exact List.not_mem_nil
  unfold Region.ready at h2
  rw [List.mem_filter] at h2
  have hg:listed.getD i true=listed.getD i false:=by
   rw [Array.getD_eq_getD_getElem?,Array.getD_eq_getD_getElem?,Array.getElem?_eq_getElem (by omega)];rfl
  by_cases e:listed.getD i false=true
  ·exact e
  ·exfalso
   refine h2 ⟨List.mem_range.2 hi,?_⟩
   rw [hg,ho]
   simp only [Bool.and_eq_true,Option.map_some,Option.getD_some,Array.all_eq_true_iff_forall_mem]
   refine ⟨by simpa using e,fun x hx=>?_⟩
   have h3:=h1 x hx
   cases hb:Region.binds .any x with
   | false=>rfl
   | true =>
    rw [hb] at h3
    simp only [Bool.not_true,Bool.false_or,decide_eq_true_eq] at h3 ⊢
    exact ih _ h3 (by omega)
structure Agr (ops:Array Oper) (V:Nat→Value) (base:Array Value) (listed:Array Bool) (a:Act):Prop where
 defs:a.defers=[]
 len:listed.size=ops.size
 size:a.tmps.size=base.size
 done:∀ i o t,ops[i]?=some o→o.dst=some t→listed.getD i false=true→t<base.size→a.tmps[t]?=some (V i)
 still:∀ t,(∀ i o,ops[i]?=some o→o.dst=some t→listed.getD i false=false)→a.tmps[t]?=base[t]?
theorem Agr.start (ops:Array Oper)(V:Nat→Value)(base:Array Value):Agr ops V base (Array.replicate ops.size false) ⟨base,[]⟩:=by
 refine ⟨rfl,by simp,rfl,fun i o t ho ht hl _=>?_,fun _ _=>rfl⟩
 rw [Array.getD_eq_getD_getElem?,Array.getElem?_replicate] at hl
 split at hl<;>cases hl
theorem Agr.val {ops:Array Oper}{V V':Nat→Value}{base:Array Value}{listed:Array Bool}{a:Act}(h:Agr ops V base listed a)(hv:∀ i,listed.getD i false=true→V' i=V i):Agr ops V' base listed a :=
 ⟨h.defs,h.len,h.size,fun i o t ho ht hl hb=>by rw [hv i hl];exact h.done i o t ho ht hl hb,h.still⟩
def oneDst (ops:Array Oper):Bool:=(List.range ops.size).all fun i=>(List.range ops.size).all fun j=>i == j || (match ops[i]?,ops[j]? with|some oi,some oj=>(match oi.dst,oj.dst with|some s,some t=>s != t|_,_=>true)|_,_=>true)
theorem oneDst_spec {ops:Array Oper}(h:oneDst ops=true){i j:Nat}{oi oj:Oper}{t:Nat}(hi:ops[i]?=some oi)(hj:ops[j]?=some oj)(ti:oi.dst=some t)(tj:oj.dst=some t):i=j:=by
 unfold oneDst at h
 rw [List.all_eq_true] at h
 have li:=(Array.getElem?_eq_some_iff.1 hi).1
 have lj:=(Array.getElem?_eq_some_iff.1 hj).1
 have h1:=h i (List.mem_range.2 li)
 rw [List.all_eq_true] at h1
 have h2:=h1 j (List.mem_range.2 lj)
 simp only [hi,hj,ti,tj,Bool.or_eq_true,beq_iff_eq,bne_self_eq_false,Bool.false_eq_true,or_false] at h2
 exact h2
theorem Agr.put {ops:Array Oper}{V:Nat→Value}{base:Array Value}{listed:Array Bool}{a:Act}(h:Agr ops V base listed a)(h1:oneDst ops=true){i:Nat}{o:Oper}(ho:ops[i]?=some o){v:Value}(hv:V i=v):Agr ops V base (listed.setIfInBounds i true) (a.put o.dst v):=by
 subst hv
 have li:i<listed.size:=by rw [h.len];exact (Array.getElem?_eq_some_iff.1 ho).1
 have hg:∀ j,(listed.setIfInBounds i true).getD j false=if i=j then true else listed.getD j false:=fun j=>by
  rw [Array.getD_eq_getD_getElem?,Array.getElem?_setIfInBounds]
  by_cases e:i=j
  ·subst e;simp [li]
  ·simp [e]
 refine ⟨?_,by simp [h.len],?_,fun j oj t hj tj hl hb=>?_,fun t ht=>?_⟩
 ·unfold Act.put;split<;>exact h.defs
 ·unfold Act.put;split<;>simp [h.size]
 ·rw [hg] at hl
  by_cases e:i=j
  ·subst e
   rw [ho] at hj;obtain rfl:=Option.some.inj hj
   unfold Act.put;rw [tj]
   simp [h.size,hb]
  ·rw [if_neg e] at hl
   have h0:=h.done j oj t hj tj hl hb
   unfold Act.put
   split
   ·rename_i d hd
    have:d≠t:=fun e'=>e (oneDst_spec h1 ho hj (e'▸hd) tj)
    simp only [Array.getElem?_setIfInBounds_ne this]
    exact h0
   ·exact h0
 ·have h0:∀ j oj,ops[j]?=some oj→oj.dst=some t→listed.getD j false=false:=fun j oj hj tj=>by
   have:=ht j oj hj tj
   rw [hg] at this
   by_cases e:i=j
   ·rw [if_pos e] at this;cases this
   ·rw [if_neg e] at this;exact this
  have h2:=h.still t h0
  unfold Act.put
  split
  ·rename_i d hd
   have:d≠t:=fun e'=>by
    have:=ht i o ho (e'▸hd)
    rw [hg,if_pos rfl] at this;cases this
   simp only [Array.getElem?_setIfInBounds_ne this]
   exact h2
  ·exact h2
theorem Agr.tmp {ops:Array Oper}{V:Nat→Value}{base:Array Value}{listed:Array Bool}{a:Act}(h:Agr ops V base listed a){j t:Nat}{o:Oper}{v:Value}(ho:ops[j]?=some o)(ht:o.dst=some t)(hl:listed.getD j false=true)(hb:t<base.size)(hv:V j=v):a.eval (.tmp t)=v:=by
 show a.tmps.getD t undef=v
 rw [Array.getD_eq_getD_getElem?,h.done j o t ho ht hl hb,← hv];rfl
theorem Agr.base {ops:Array Oper}{V:Nat→Value}{base:Array Value}{listed:Array Bool}{a:Act}(h:Agr ops V base listed a){t:Nat}{v:Value}(hn:((List.range ops.size).all fun i=>((ops[i]?).map (fun o=>o.dst != some t)).getD true)=true)(hv:base[t]?=some v):a.eval (.tmp t)=v:=by
 show a.tmps.getD t undef=v
 rw [Array.getD_eq_getD_getElem?,h.still t ?_,hv];· rfl
 intro i o ho ht
 rw [List.all_eq_true] at hn
 have:=hn i (List.mem_range.2 (Array.getElem?_eq_some_iff.1 ho).1)
 rw [ho] at this
 simp [ht] at this
def fill (ops:Array Oper)(V:Nat→Value)(base:Array Value):Array Value:=(base.toList.zipIdx.map fun (x,t)=>match (List.range ops.size).find? (fun i=>((ops[i]?).map (fun o=>o.dst == some t)).getD false) with|some i=>V i|none=>x).toArray
theorem Agr.full {ops:Array Oper}{V:Nat→Value}{base:Array Value}{listed:Array Bool}{a:Act}(h:Agr ops V base listed a)(hl:∀ i,i<ops.size→listed.getD i false=true):a=⟨fill ops V base,[]⟩:=by
 obtain ⟨tm,df⟩:=a
 obtain rfl:df=[]:=h.defs
 refine congrArg (fun x=>(⟨x,[]⟩:Act)) ?_
 apply Array.ext_getElem?
 intro t
 rcases Nat.lt_or_ge t base.size with hb|hb
 rotate_left
 ·rw [Array.getElem?_eq_none (by have:=h.size;simp only at this;omega),Array.getElem?_eq_none (by simp [fill];omega)]
 ·have e:(fill ops V base)[t]?=some (match (List.range ops.size).find? (fun i=>((ops[i]?).map (fun o=>o.dst == some t)).getD false) with|some i=>V i|none=>base[t]):=by
   simp only [fill,List.getElem?_toArray,List.getElem?_map,List.getElem?_zipIdx,Nat.zero_add,Array.getElem?_toList,Array.getElem?_eq_getElem hb,Option.map_some]
  rw [e]
  cases hf:(List.range ops.size).find? (fun i=>((ops[i]?).map (fun o=>o.dst == some t)).getD false) with
  | some i =>
   have h1:=List.find?_some hf
   have h2:=List.mem_range.1 (List.mem_of_find?_eq_some hf)
   rw [Array.getElem?_eq_getElem h2] at h1
   simp only [Option.map_some,Option.getD_some,beq_iff_eq] at h1
   exact h.done i _ t (Array.getElem?_eq_getElem h2) h1 (hl i h2) hb
  | none =>
   have:=h.still t (fun i o ho ht=>by
    have h3:=List.find?_eq_none.1 hf i (List.mem_range.2 (Array.getElem?_eq_some_iff.1 ho).1)
    rw [ho] at h3
    simp [ht] at h3)
   simp only at this ⊢
   rw [this,Array.getElem?_eq_getElem hb]
theorem ready_no {ops:Array Oper}{listed:Array Bool}{i:Nat}(h:i∈Region.ready .any ops listed)(h1:listed.getD i false=true):False:=by
 have h0:=ready_not h
 rw [Array.getD_eq_getD_getElem?] at h0 h1
 cases e:listed[i]? with
 | none=>rw [e] at h1;cases h1
 | some x=>rw [e] at h0 h1;simp at h0 h1;rw [h0] at h1;cases h1
theorem ready_off {ops:Array Oper}{listed:Array Bool}{i:Nat}{o:Oper}(h:i∈Region.ready .any ops listed)(ho:ops[i]?=some o){j:Nat}(h1:listed.getD j false=false)(hj:(o.after.any fun e=>Region.binds .any e && e.on == j)=true):False:=by
 rw [ready_after h ho hj] at h1;cases h1
theorem set_on {listed:Array Bool}{i j:Nat}(h:listed.getD j false=true):(listed.setIfInBounds i true).getD j false=true:=by
 rw [Array.getD_eq_getD_getElem?] at h ⊢
 rw [Array.getElem?_setIfInBounds]
 split
 ·split<;>simp_all
 ·exact h
theorem set_off {listed:Array Bool}{i j:Nat}(h:listed.getD j false=false)(e:i≠j):(listed.setIfInBounds i true).getD j false=false:=by
 rw [Array.getD_eq_getD_getElem?] at h ⊢
 rw [Array.getElem?_setIfInBounds,if_neg e]
 exact h
theorem set_now {ops:Array Oper}{listed:Array Bool}{i:Nat}(h:i∈Region.ready .any ops listed):(listed.setIfInBounds i true).getD i false=true:=by
 have h0:=ready_not h
 rw [Array.getD_eq_getD_getElem?] at h0 ⊢
 rw [Array.getElem?_setIfInBounds,if_pos rfl]
 split
 ·rfl
 ·rw [Array.getElem?_eq_none (by omega)] at h0;cases h0
theorem ord_start {P:Program}(hm:P.follows .mixedOrders=true)(ops:Array Oper)(t:Nat):Ord ops ops.size (Array.replicate ops.size false) (Region.schedule (P.follows .mixedOrders) ops t):=by
 refine ⟨?_,t,?_⟩
 ·unfold unL
  exact Nat.le_trans (List.length_filter_le _ _) (by simp)
 ·simp only [Region.schedule,hm,Bool.true_or,if_true];rfl
end Go.Proofs.YtcgabodkegcpgaaDoor.Br
