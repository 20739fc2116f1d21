/- fork, whole. No statement of the program is proved here. -/
import Derived.Test.YtcgabodkegcpgaaDoorOdr
namespace Go.Proofs.YtcgabodkegcpgaaDoor
open Go.Conc Go.RowKit
open Br (OpD KO SO SP sfO Lk Fit Must DL Liv Clear)
set_option linter.unusedVariables false
set_option linter.unusedSimpArgs false
set_option maxHeartbeats 20000000
section
variable {C:Ctx} {n:Nat} {pv:List Nat} {H:Heap} {free:Value} {go:Bool}
theorem Sl.ok_more {s:Sl}{pv pv':List Nat}{H H':Heap}(h:s.ok pv H)(hs:∀ i∈pv,i∈pv')(hH:∀ i∈pv,H' i=H i):s.ok pv' H' :=
 ⟨h.1,h.2.imp id fun ⟨b,c,t,h1,h2,h3,h4⟩=>⟨b,c,t,h1,hs b h2,(hH b h2).trans h3,h4⟩⟩
theorem Fr.gain {fb:Option Nat}{xs:List Int}{pv':List Nat}{H':Heap}(hs:∀ i∈pv,i∈pv')(hH:∀ i∈pv,H' i=H i)(h:Fr fb pv H free xs):Fr fb pv' H' free xs:=by
 obtain ⟨sl,h1,h2,h3,h4⟩:=h
 exact ⟨sl,h1,h2,h3,Sl.ok_more h4 hs hH⟩
theorem Row.gain {g t m:Nat}{f:Nat→Value}{pv':List Nat}{H':Heap}(h:Row pv H g t m f)(hs:∀ i∈pv,i∈pv')(hH:∀ i∈pv,H' i=H i):Row pv' H' g t m f:=by
 obtain ⟨h1,c,h2,h3⟩:=h
 exact ⟨hs g h1,c,(hH g h1).trans h2,h3⟩
theorem set_agree {b:Nat}{X:Obj}(hb:b ∉ pv):∀ i∈pv,(H.set b X) i=H i:=fun i hi=>Heap.set_other _ _ (fun e=>hb (e▸hi))
theorem cut_mem {f:Nat→Value}{o m j:Nat}{v:Value}(h:(cut f o m)[j]?=some v):j<m∧v=f (o+j):=by
 unfold cut at h
 rw [List.getElem?_map] at h
 by_cases e:j<m
 ·rw [List.getElem?_range e] at h
  exact ⟨e,(Option.some.inj h).symm⟩
 ·rw [List.getElem?_eq_none (by simpa using e)] at h;cases h
noncomputable def forkBody:Code:=(Tryd.f79.body).getD .skip
theorem fork_enter (o:OpD)(y:Value):Frame.enter Tryd.prog 79 #[pO o,y] .normal=(base 79).at ⟨#[pO o,y,undef,undef,undef,undef,undef,undef,undef,undef,undef,undef,undef,undef,undef,undef,undef,undef,undef,undef,undef,undef,undef,undef,undef,undef,undef,undef,undef,undef,undef,undef,undef,undef,undef,undef,undef,undef,undef,undef,undef,undef,undef,undef,undef,undef,undef,undef,undef,undef,undef,undef,undef,undef,undef,undef,undef,undef,undef,undef,undef,undef,undef,undef],[]⟩ [.code forkBody]:=by
 rw [enter_at (c:=forkBody) _ Tryd.func79 rfl]
 refine congrArg (fun t=>(base 79).at ⟨t,[]⟩ [.code forkBody]) ?_
 kernel_rfl
set_option maxRecDepth 100000 in
theorem good_fork (K0:Ker)(gF gS gD p:Nat)(hK:K0.nS≤32)(hp:p<K0.nS)(hC:C.slot=p){fb:Option Nat}(hfb:∀ b,fb=some b→b∈pv)(hgf:some gS≠fb)(hR:Row pv H gS 55 (K0.nS*20) (sCell K0)){xs:List Int}(hF:Fr fb pv H free xs)(fr:Frame)(cs:List Frame)(k:Int × Int→Bool→Strat)
  (hn:∀ x e H' free' go',Good' C n (k (x,e) go') [] H' free' go' (G (fr.finish (.tuple #[.int .i64 x,.int .i64 e])) cs)) :
  Good' C n ((forkM K0 p xs).then go k) pv H free go (G (Frame.enter Tryd.prog 79 #[pO C.o,stVal K0 gF gS gD] .normal) (fr::cs)):=by
 unfold forkM
 rw [M.bind_then,fork_enter]
 simp only [forkBody,Tryd.f79,Option.getD_some,pO] at *
 unfold stVal at *
 apply good_box (X:=boxSt K0 gF gS gD) trivial
 ·intro l K un w bx Stop hbx St hd d
  have hc:=St.clear
  refine Br.liv_seq (fun d=>?_) _
  refine Br.liv_region (fun d=>?_) _
  simp only [Br.rz,Br.ix,Nat.reduceAdd]
  refine Br.must_operW rfl rfl (by decide) (fun d K' hK=>?_) _
  go_simp
  refine hK _ _ ⟨Br.dl_alloc (fun e he=>?_),?_⟩
  ·have hm:=mem_listed he
   simp [go_sem] at hm
  clear hK K'
  have hc:Clear (w.alloc (boxSt K0 gF gS gD)):=(Br.lk_new hc.lk (o:=boxSt K0 gF gS gD) trivial).1.sight
  rw [show (w.at d).alloc (boxSt K0 gF gS gD)=(w.alloc (boxSt K0 gF gS gD)).at d from rfl]
  refine Br.mo rfl rfl hc (fun d K' hK=>?_) _
  go_simp
  refine hK _ _ ⟨rfl,?_⟩
  clear hK K'
  refine Br.mo rfl rfl hc (fun d K' hK=>?_) _
  go_simp
  refine hK _ _ ⟨rfl,?_⟩
  clear hK K'
  refine Br.liv_region_end (fun d=>?_) _
  rw [← hbx];exact hd _
 intro sb hb hb'
 apply good_still
 ·intro l K un w Stop St hd d
  have hc:=St.clear
  refine Br.liv_seq (fun d=>?_) _
  refine Br.liv_region (fun d=>?_) _
  simp only [Br.rz,Br.ix,Nat.reduceAdd]
  refine Br.mo rfl rfl hc (fun d K' hK=>?_) _
  go_simp
  refine hK _ _ ⟨rfl,?_⟩
  clear hK K'
  exact hd _
 refine good_loadrow (ms:=[.slice (some ⟨gF,0,none⟩) K0.nF K0.nF,.slice (some ⟨gS,0,none⟩) K0.nS K0.nS,.slice (some ⟨gD,0,none⟩) K0.nD K0.nD]) rfl rfl (by decide) rfl rfl (List.mem_cons_self ..) (Heap.set_same _ _ _) (fun j v hj=>by simpa using hj) Tryd.underlying45 rfl (by kernel_rfl) ?_
 apply good_still
 ·intro l K un w Stop St hd d
  have hc:=St.clear
  go_simp
  refine Br.mc rfl (fun u=>stepG_call rfl rfl (by decide) rfl Tryd.func86 rfl rfl (vs:=#[pO C.o,.agg #[.slice (some ⟨gF,0,none⟩) K0.nF K0.nF,.slice (some ⟨gS,0,none⟩) K0.nS K0.nS,.slice (some ⟨gD,0,none⟩) K0.nD K0.nD]]) (by simp [Act.eval]) u) (fun d=>?_) _
  exact hd _
 have hs1:∀ i∈pv,i∈sb::pv:=fun i hi=>List.mem_cons_of_mem _ hi
 have hR1:=hR.gain hs1 (set_agree (X:=boxSt K0 gF gS gD) hb)
 have hfb1:∀ b,fb=some b→b∈sb::pv:=fun b e=>hs1 b (hfb b e)
 have hsf:some sb≠fb:=fun e=>hb (hfb sb e.symm)
 refine good_spawn pop_spec (fun xs _=>popL_len xs) K0 gF gS gD hK hfb1 hgf hR1 (hF.gain hs1 (set_agree hb)) _ _ _ (fun child e xs' H' free' go' hF' hH'=>?_)
 rw [Frame.finish_at]
 apply good_still
 ·intro l K un w Stop St hd d
  have hc:=St.clear
  go_simp
  refine Br.mo rfl rfl hc (fun d K' hK=>?_) _
  go_simp
  refine hK _ _ ⟨rfl,?_⟩
  clear hK K'
  refine Br.mo rfl rfl hc (fun d K' hK=>?_) _
  go_simp
  refine hK _ _ ⟨rfl,?_⟩
  clear hK K'
  refine Br.mo rfl rfl hc (fun d K' hK=>?_) _
  go_simp
  refine hK _ _ ⟨rfl,?_⟩
  clear hK K'
  refine Br.mo rfl rfl hc (fun d K' hK=>?_) _
  go_simp
  refine hK _ _ ⟨rfl,?_⟩
  clear hK K'
  refine Br.mo rfl rfl hc (fun d K' hK=>?_) _
  go_simp
  refine hK _ _ ⟨rfl,?_⟩
  clear hK K'
  refine Br.liv_region_end (fun d=>?_) _
  refine Br.liv_seq (fun d=>?_) _
  refine Br.liv_seq (fun d=>?_) _
  refine Br.liv_region (fun d=>?_) _
  simp only [Br.rz,Br.ix,Nat.reduceAdd]
  refine Br.mo rfl rfl hc (fun d K' hK=>?_) _
  go_simp
  refine hK _ _ ⟨rfl,?_⟩
  clear hK K'
  refine Br.mo rfl rfl hc (fun d K' hK=>?_) _
  go_simp
  refine hK _ _ ⟨rfl,?_⟩
  clear hK K'
  refine Br.liv_region_end (fun d=>?_) _
  exact hd _
 by_cases he:e=0
 rotate_left
 ·rw [if_neg he,M.pure_then]
  have hb:(e != 0)=true:=by simp [he]
  apply good_still
  ·intro l K un w Stop St hd d
   have hc:=St.clear
   refine Br.mc rfl (fun u=>stepG_cond (t:=true) (by simpa [Act.eval] using hb)) (fun d=>?_) _
   simp only [if_true]
   refine Br.liv_seq (fun d=>?_) _
   refine Br.liv_region (fun d=>?_) _
   simp only [Br.rz,Br.ix,Nat.reduceAdd]
   refine Br.mo rfl rfl hc (fun d K' hK=>?_) _
   go_simp
   refine hK _ _ ⟨rfl,?_⟩
   clear hK K'
   refine Br.mo rfl rfl hc (fun d K' hK=>?_) _
   go_simp
   refine hK _ _ ⟨rfl,?_⟩
   clear hK K'
   refine Br.mo rfl rfl hc (fun d K' hK=>?_) _
   go_simp
   refine hK _ _ ⟨rfl,?_⟩
   clear hK K'
   refine Br.liv_region_end (fun d=>?_) _
   refine Br.liv_ret (fun d=>?_) _
   exact Br.liv_leave (v:=.tuple #[.int .i64 0,.int .i64 e]) rfl rfl Tryd.func79 (resultsC_tmp2 (t:=4) (u:=5) rfl _) hd _
   done
  exact good_nil (hn 0 e H' free' go')
 subst he
 rw [if_pos rfl,M.bind_then]
 apply good_still
 ·intro l K un w Stop St hd d
  have hc:=St.clear
  refine Br.mc rfl (fun u=>stepG_cond (t:=false) rfl) (fun d=>?_) _
  simp only [if_true,if_false,Bool.false_eq_true,↓reduceIte]
  refine Br.liv_skip (fun d=>?_) _
  refine Br.liv_seq (fun d=>?_) _
  exact hd _
 have hR2:Row (sb::pv) H' gS 55 (K0.nS*20) (sCell K0):=hR1.same (hH' gS hR1.1 hgf)
 have hbs:H' sb=boxSt K0 gF gS gD:=(hH' sb (List.mem_cons_self ..) hsf).trans (Heap.set_same _ _ _)
 have key:=fun (j11 j12 j13 j14 j15 j16 j17 j18:Value) v hv hc=>fork_read (C:=C) (child:=child) hK hR2 hp (List.mem_cons_self ..) hbs j11 j12 j13 j14 j15 j16 j17 j18 v hv hc
 unfold forkR4 stVal at key
 simp only [Tryd.f79,pO] at key
 refine good_code (by kernel_rfl) rfl rfl ⟨_,Tryd.func79⟩ (fun v hv hrec=>key _ _ _ _ _ _ _ _ v hv (hrec 4 _ (fun un=>by simp [oRow,hC]))) _ _ ?_
 clear key
 rintro a' bs Hn ⟨b2,rfl,rfl,c,t,f,hX,hc⟩ hnew hkeep
 have hs2:∀ i∈sb::pv,i∈[b2] ++ (sb::pv):=fun i hi=>List.mem_append_right _ hi
 have h2f:some b2≠fb:=fun e=>(hnew b2 (List.mem_singleton.2 rfl)).1 (hfb1 b2 e.symm)
 have hF2:=Fr.gain hs2 hkeep hF'
 apply good_still
 ·intro l K un w Stop St hd d
  have hc:=St.clear
  refine Br.liv_seq (fun d=>?_) _
  refine Br.liv_region (fun d=>?_) _
  simp only [Br.rz,Br.ix,Nat.reduceAdd]
  refine Br.mo rfl rfl hc (fun d K' hK=>?_) _
  go_simp
  refine hK _ _ ⟨rfl,?_⟩
  clear hK K'
  refine Br.mo rfl rfl hc (fun d K' hK=>?_) _
  go_simp
  refine hK _ _ ⟨rfl,?_⟩
  clear hK K'
  exact hd _
 refine good_loadrow (ms:=cut (sCell K0) (p*20) 20) rfl rfl (by decide) rfl rfl (List.mem_append_left _ (List.mem_singleton.2 rfl)) hX (fun j v hj=>by obtain ⟨h1,rfl⟩:=cut_mem hj;exact hc j h1) Tryd.underlying55 rfl (by rw [cut_len];kernel_rfl) ?_
 rw [cut_slot]
 apply good_still
 ·intro l K un w Stop St hd d
  have hc:=St.clear
  go_simp
  refine Br.mc rfl (fun u=>stepG_call rfl rfl (by decide) rfl Tryd.func88 rfl rfl (vs:=#[.agg (slotV K0 p)]) (by simp [Act.eval]) u) (fun d=>?_) _
  exact hd _
 refine good_lis (by kernel_rfl) (by have:=heldL_len (fun j=>K0.S p (3+j*2)) 4;unfold pagesL;omega) (fun v _=>pages_slot K0 p v) _ _ (fun ps bs3 H3 hpx hpc hpb hpo hnew3 hkeep3=>?_)
 rw [← hpx,Frame.finish_at]
 have hs3:∀ i∈[b2] ++ (sb::pv),i∈bs3 ++ ([b2] ++ (sb::pv)):=fun i hi=>List.mem_append_right _ hi
 have hF3:=Fr.gain hs3 hkeep3 hF2
 have hpf:ps.blk≠fb∨ps.blk=none:=by
  rcases hpb with h|⟨b,h,hb3⟩
  ·exact .inr h
  ·exact .inl fun e=>(hnew3 b hb3).1 (hs2 b (hfb1 b (e.symm.trans h)))
 apply good_still
 ·intro l K un w Stop St hd d
  have hc:=St.clear
  go_simp
  refine Br.mc rfl (fun u=>stepG_call rfl rfl (by decide) rfl Tryd.func87 rfl rfl (vs:=#[pO C.o,.int .i64 child,ps.val]) (by simp [Act.eval]) u) (fun d=>?_) _
  exact hd _
 refine good_copy pop_spec (fun xs _=>popL_len xs) (fun b e=>hs3 b (hs2 b (hfb1 b e))) child ps hpo hpf hpc hF3 _ _ _ (fun ip e xs4 H4 free4 go4 hF4 hH4=>?_)
 rw [Frame.finish_at]
 have hpo4:=(Sl.ok_same hpo hpf hH4)
 have h24:H4 b2=.cells c t f:=(hH4 b2 (List.mem_append_right _ (List.mem_append_left _ (List.mem_singleton.2 rfl))) h2f).trans ((hkeep3 b2 (List.mem_append_left _ (List.mem_singleton.2 rfl))).trans hX)
 apply good_still
 ·intro l K un w Stop St hd d
  have hc:=St.clear
  go_simp
  refine Br.mo rfl rfl hc (fun d K' hK=>?_) _
  go_simp
  refine hK _ _ ⟨rfl,?_⟩
  clear hK K'
  refine Br.mo rfl rfl hc (fun d K' hK=>?_) _
  go_simp
  refine hK _ _ ⟨rfl,?_⟩
  clear hK K'
  refine Br.mo rfl rfl hc (fun d K' hK=>?_) _
  go_simp
  refine hK _ _ ⟨rfl,?_⟩
  clear hK K'
  refine Br.mo rfl rfl hc (fun d K' hK=>?_) _
  go_simp
  refine hK _ _ ⟨rfl,?_⟩
  clear hK K'
  refine Br.mo rfl rfl hc (fun d K' hK=>?_) _
  go_simp
  refine hK _ _ ⟨rfl,?_⟩
  clear hK K'
  refine Br.liv_region_end (fun d=>?_) _
  refine Br.liv_seq (fun d=>?_) _
  refine Br.liv_region (fun d=>?_) _
  simp only [Br.rz,Br.ix,Nat.reduceAdd]
  refine Br.mo rfl rfl hc (fun d K' hK=>?_) _
  go_simp
  refine hK _ _ ⟨rfl,?_⟩
  clear hK K'
  refine Br.liv_region_end (fun d=>?_) _
  refine Br.liv_seq (fun d=>?_) _
  refine Br.liv_seq (fun d=>?_) _
  refine Br.liv_region (fun d=>?_) _
  simp only [Br.rz,Br.ix,Nat.reduceAdd]
  refine Br.mo rfl rfl hc (fun d K' hK=>?_) _
  go_simp
  refine hK _ _ ⟨rfl,?_⟩
  clear hK K'
  refine Br.mo rfl rfl hc (fun d K' hK=>?_) _
  go_simp
  refine hK _ _ ⟨rfl,?_⟩
  clear hK K'
  refine Br.liv_region_end (fun d=>?_) _
  exact hd _
 unfold forkC
 have keyS:=fun (pv:List Nat) (H:Heap) (free:Value) (go:Bool) (e:Int) (fs:Sl) (hps:(ps.take ip).ok pv H) (hfs:fs.ok pv H)=>fork_start (C:=C) (n:=n) (pv:=pv) (H:=H) (free:=free) (go:=go) child e (ps.take ip) fs hps hfs fr cs k (fun x e f g=>hn x e H f g)
 unfold forkT1 at keyS
 simp only [Tryd.f79,pO] at keyS
 by_cases he:e=0
 rotate_left
 ·rw [if_neg he]
  have hb:(e == 0)=false:=by simp [he]
  apply good_still
  ·intro l K un w Stop St hd d
   have hc:=St.clear
   refine Br.mc rfl (fun u=>stepG_cond (t:=false) (by simpa [Act.eval] using hb)) (fun d=>?_) _
   simp only [if_false,Bool.false_eq_true]
   refine Br.liv_skip (fun d=>?_) _
   exact hd _
  exact keyS _ _ _ _ e ⟨none,0,[]⟩ (Sl.take_ok hpo4 ip) ⟨by simp,.inl rfl⟩ _ _ _ _ _ _ _ _ _ _ _ _ _ _ _ _ _ _ _ _ _ _ _ _ _ _ _ _ _ _ _ _ _ _ _ _ _ _ _
 subst he
 rw [if_pos rfl,M.bind_then]
 apply good_still
 ·intro l K un w Stop St hd d
  have hc:=St.clear
  refine Br.mc rfl (fun u=>stepG_cond (t:=true) rfl) (fun d=>?_) _
  simp only [if_true,if_false,Bool.false_eq_true,↓reduceIte]
  refine Br.liv_region (fun d=>?_) _
  simp only [Br.rz,Br.ix,Nat.reduceAdd]
  refine Br.mo rfl rfl hc (fun d K' hK=>?_) _
  go_simp
  refine hK _ _ ⟨rfl,?_⟩
  clear hK K'
  refine Br.mo rfl rfl hc (fun d K' hK=>?_) _
  go_simp
  refine hK _ _ ⟨rfl,?_⟩
  clear hK K'
  exact hd _
 refine good_loadrow (ms:=cut (sCell K0) (p*20) 20) rfl rfl (by decide) rfl rfl (List.mem_append_right _ (List.mem_append_left _ (List.mem_singleton.2 rfl))) h24 (fun j v hj=>by obtain ⟨h1,rfl⟩:=cut_mem hj;exact hc j h1) Tryd.underlying55 rfl (by rw [cut_len];kernel_rfl) ?_
 rw [cut_slot]
 apply good_still
 ·intro l K un w Stop St hd d
  have hc:=St.clear
  go_simp
  refine Br.mc rfl (fun u=>stepG_call rfl rfl (by decide) rfl Tryd.func90 rfl rfl (vs:=#[.agg (slotV K0 p)]) (by simp [Act.eval]) u) (fun d=>?_) _
  exact hd _
 refine good_lis (by kernel_rfl) (by have:=heldL_len (fun j=>K0.S p (11+j*2)) 4;unfold filesL;omega) (fun v _=>files_slot K0 p v) _ _ (fun fs bs5 H5 hfx hfc hfb5 hfo hnew5 hkeep5=>?_)
 rw [← hfx,Frame.finish_at]
 apply good_still
 ·intro l K un w Stop St hd d
  have hc:=St.clear
  go_simp
  refine Br.mc rfl (fun u=>stepG_call rfl rfl (by decide) rfl Tryd.func89 rfl rfl (vs:=#[pO C.o,.int .i64 child,fs.val]) (by simp [Act.eval]) u) (fun d=>?_) _
  exact hd _
 refine good_give child fs hfo hfc _ _ _ (fun iq e go6=>?_)
 rw [Frame.finish_at]
 apply good_still
 ·intro l K un w Stop St hd d
  have hc:=St.clear
  go_simp
  refine Br.mo rfl rfl hc (fun d K' hK=>?_) _
  go_simp
  refine hK _ _ ⟨rfl,?_⟩
  clear hK K'
  refine Br.mo rfl rfl hc (fun d K' hK=>?_) _
  go_simp
  refine hK _ _ ⟨rfl,?_⟩
  clear hK K'
  refine Br.mo rfl rfl hc (fun d K' hK=>?_) _
  go_simp
  refine hK _ _ ⟨rfl,?_⟩
  clear hK K'
  refine Br.mo rfl rfl hc (fun d K' hK=>?_) _
  go_simp
  refine hK _ _ ⟨rfl,?_⟩
  clear hK K'
  refine Br.mo rfl rfl hc (fun d K' hK=>?_) _
  go_simp
  refine hK _ _ ⟨rfl,?_⟩
  clear hK K'
  refine Br.liv_region_end (fun d=>?_) _
  exact hd _
 exact keyS _ _ _ _ e (fs.take iq) (Sl.take_ok (Sl.ok_more hpo4 (fun i hi=>List.mem_append_right _ hi) hkeep5) ip) (Sl.take_ok hfo iq) _ _ _ _ _ _ _ _ _ _ _ _ _ _ _ _ _ _ _ _ _ _ _ _ _ _ _ _ _ _ _ _ _ _ _ _ _ _ _
end
attribute [local go_sem ↓] Go.wp_at_zero Go.wp_at_succ
section
variable {C:Ctx} {n:Nat} {s:Strat} {pv:List Nat} {H:Heap} {free:Value} {go:Bool}
noncomputable def waitR3:Code :=
 match Tryd.f80.body with
 | some (.seq _ (.seq (.seq _ (.block _ (.loop (.seq _ (.seq _ (.seq (.block _ (.seq r _)) _)))))) _))=>r
 | _=>.skip
noncomputable def waitR4:Code :=
 match Tryd.f80.body with
 | some (.seq _ (.seq (.seq _ (.block _ (.loop (.seq _ (.seq _ (.seq (.block _ (.seq _ (.seq r _))) _)))))) _))=>r
 | _=>.skip
noncomputable def waitOps:Array Oper :=
 match Tryd.f80.body with
 | some (.seq _ (.seq (.seq _ (.block _ (.loop (.seq _ (.seq _ (.seq (.block _ (.seq _ (.seq _ (.cond _ (.seq (.region _ ops _) _) _)))) _)))))) _))=>ops
 | _=>#[]
set_option maxRecDepth 100000 in
theorem wait_read {K0:Ker}{gF gS gD sb:Nat}(hK:K0.nS≤32)(hR:Row pv H gS 55 (K0.nS*20) (sCell K0)){i:Nat}(hi:i<K0.nS)(j6 j7 j12 j13 j14 j15 j16 j17 j18 j19 j20 j21 j22 j23 j24 j25 j26 j27 j37:Value)(v:World)(hv:∀ i∈pv,i<v.heap.size∧(Br.Obj.sight (H i)→v.heap[i]?=some (H i))) :
  waitR3.wp Tryd.prog (fun e a' v'=>e=.normal∧∃ bs Hn,Gain pv H v v' bs Hn∧∃ bx,bs=[bx]∧a'=⟨#[pO C.o,stVal K0 gF gS gD,undef,.pointer (some ⟨sb,0,none⟩),.int .i64 0,.int .i64 0,.int .i64 i,.pointer (some ⟨bx,0,none⟩),.pointer (some ⟨sb,1,none⟩),.slice (some ⟨gS,0,none⟩) K0.nS K0.nS,.int .i64 K0.nS,.int .i64 i,j12,.int .i64 i,.pointer (some ⟨gS,i*20,none⟩),.agg (cut (sCell K0) (i*20) 20).toArray,j16,j17,j18,j19,j20,j21,j22,j23,j24,j25,j26,j27,undef,undef,undef,undef,undef,undef,undef,undef,undef,j37,undef,undef],[]⟩∧Slt (Hn bx) K0 i) ⟨#[pO C.o,stVal K0 gF gS gD,undef,.pointer (some ⟨sb,0,none⟩),.int .i64 0,.int .i64 0,j6,j7,.pointer (some ⟨sb,1,none⟩),.slice (some ⟨gS,0,none⟩) K0.nS K0.nS,.int .i64 K0.nS,.int .i64 i,j12,j13,j14,j15,j16,j17,j18,j19,j20,j21,j22,j23,j24,j25,j26,j27,undef,undef,undef,undef,undef,undef,undef,undef,undef,j37,undef,undef],[]⟩ v:=by
 have hrow:=hR.is hv
 have hlt:∀ i∈pv,i<v.heap.size:=fun i hi=>(hv i hi).1
 obtain ⟨cs,hcs⟩:∃ cs,cs=cut (sCell K0) (i*20) 20:=⟨_,rfl⟩
 have ei:Hid ((Tryd.prog.info? 55).map (·.size)=some cs.length):=by unfold Hid;rw [hcs,cut_len];kernel_rfl
 have ei2:Hid ((Tryd.prog.info? 55).map (·.size)=some cs.toArray.size):=by unfold Hid;rw [List.size_toArray,hcs,cut_len];kernel_rfl
 have o1:Hid (cs.toArray.all (·.oneCell')=true):=by unfold Hid;rw [hcs];exact cut_one K0 _ _
 have z1:Hid (cs.toArray.size=20):=by unfold Hid;rw [List.size_toArray,hcs,cut_len]
 have LA:Hid (v.rangeAt gS (i*20) cs):=by unfold Hid;rw [hcs];exact rowIs_range hrow (o:=i*20) (m:=20) (by omega)
 rw [← hcs]
 have Hcs:Hid (cs=cut (sCell K0) (i*20) 20):=hcs
 clear hcs
 have b1:(0:Int)≤(i:Int):=by omega
 have b2:(i:Int)<(K0.nS:Int):=by omega
 have Hlt:Hid (∀ i∈pv,i<v.heap.size):=hlt
 clear hlt hrow hR hv
 unfold waitR3
 simp only [Tryd.f80]
 go_wp2_with (first|(refine wpList_load_mid rfl 55 _ rfl gS (i*20) rfl cs _ LA.out Tryd.underlying55 rfl ei.out ?_)|(refine wpList_store_any rfl 55 _ _ rfl _ 0 cs.toArray rfl rfl (by rw [z1.out];exact there_new1 _ _ _ _ (by rfl)) ei2.out o1.out ?_;intro W1 f1 f2 f3 f4))
 obtain ⟨X,hX,hS⟩:=slt_of (K:=K0) (i:=i) (b:=v.heap.size) (w:=W1) (by rw [← Hcs.out];exact f1)
 refine ⟨[v.heap.size],fun k=>if k=v.heap.size then X else H k,⟨?_,?_,?_,?_⟩,v.heap.size,rfl,rfl,by simpa using hS⟩
 ·rw [f3];simp
 ·intro k hk;rw [f2 k (by omega)];exact Below.heap_alloc _ _ _ hk
 ·intro b hb;obtain rfl:=List.mem_singleton.1 hb;exact ⟨Nat.le_refl _,by simpa using hX⟩
 ·intro i hi;have:=Hlt.out i hi;show (if i=v.heap.size then X else H i)=H i;rw [if_neg (by omega)]
set_option maxRecDepth 100000 in
theorem wait_look {K0:Ker}{gF gS gD sb bx i:Nat}(hbx:bx∈pv){c:Array Value}{t:TypeId}{f:Nat × Nat}(hX:H bx=.cells c t f)(hc:∀ j,j<20→c[j]?=some (sCell K0 (i*20+j)))(j12 j13 j14 j15 j16 j17 j18 j19 j20 j21 j22 j23 j24 j25 j26 j27 j37:Value)(v:World)(hv:∀ i∈pv,i<v.heap.size∧(Br.Obj.sight (H i)→v.heap[i]?=some (H i)))(hC:v.cell? ⟨C.o.bo,4,none⟩=some (.int .i64 C.slot)) :
  waitR4.wp Tryd.prog (fun e a' v'=>e=.normal∧∃ bs Hn,Gain pv H v v' bs Hn∧bs=[]∧∃ j12 j13 j14 j15 j16 j17 j18 j19 j20 j21 j22 j23 j24 j25 j26 j37:Value,a'=⟨#[pO C.o,stVal K0 gF gS gD,undef,.pointer (some ⟨sb,0,none⟩),.int .i64 0,.int .i64 0,.int .i64 i,.pointer (some ⟨bx,0,none⟩),.pointer (some ⟨sb,1,none⟩),.slice (some ⟨gS,0,none⟩) K0.nS K0.nS,.int .i64 K0.nS,.int .i64 i,j12,j13,j14,j15,j16,j17,j18,j19,j20,j21,j22,j23,j24,j25,j26,.bool (K0.S i 1 == C.slot && K0.S i 0 == 3),undef,undef,undef,undef,undef,undef,undef,undef,undef,j37,undef,undef],[]⟩) ⟨#[pO C.o,stVal K0 gF gS gD,undef,.pointer (some ⟨sb,0,none⟩),.int .i64 0,.int .i64 0,.int .i64 i,.pointer (some ⟨bx,0,none⟩),.pointer (some ⟨sb,1,none⟩),.slice (some ⟨gS,0,none⟩) K0.nS K0.nS,.int .i64 K0.nS,.int .i64 i,j12,j13,j14,j15,j16,j17,j18,j19,j20,j21,j22,j23,j24,j25,j26,j27,undef,undef,undef,undef,undef,undef,undef,undef,undef,j37,undef,undef],[]⟩ v:=by
 have c0:v.cell? ⟨bx,0,none⟩=some (.int .i64 (K0.S i 0)):=by
  simp only [World.cell?,(hv bx hbx).2 (by rw [hX];trivial),hX]
  have:=hc 0 (by omega)
  rw [sCell_num K0 i 0 (by omega) (by omega)] at this
  simpa using this
 have c1:v.cell? ⟨bx,1,none⟩=some (.int .i64 (K0.S i 1)):=by
  simp only [World.cell?,(hv bx hbx).2 (by rw [hX];trivial),hX]
  have:=hc 1 (by omega)
  rw [sCell_num K0 i 1 (by omega) (by omega)] at this
  simpa using this
 have hG:∀ v':World,v'.heap=v.heap→Gain pv H v v' [] H:=fun v' e=>⟨by rw [e];exact Nat.le_refl _,fun k _=>by rw [e],fun b hb=>(by cases hb),fun _ _=>rfl⟩
 have HG:Hid (∀ v':World,v'.heap=v.heap→Gain pv H v v' [] H):=hG
 clear hG hc hX hv hbx
 generalize K0.S i 0=x0 at *
 generalize K0.S i 1=x1 at *
 generalize hs:C.slot=sl at *
 unfold waitR4
 simp only [Tryd.f80,pO]
 by_cases he:x1=sl
 ·subst he
  go_quiet (fail)
  first|exact ⟨rfl,[],H,HG.out _ (by rfl),rfl,_,_,_,_,_,_,_,_,_,_,_,_,_,_,_,_,rfl⟩|(simp only [beq_self_eq_true,Bool.true_and];exact ⟨trivial,[],H,HG.out _ (by rfl),rfl,_,_,_,_,_,_,_,_,_,_,_,_,_,_,_,_,rfl⟩)
 ·have he':(x1 == sl)=false:=by simp [he]
  go_quiet (fail)
  first|exact ⟨rfl,[],H,HG.out _ (by rfl),rfl,_,_,_,_,_,_,_,_,_,_,_,_,_,_,_,_,rfl⟩|(simp only [he',Bool.false_and];exact ⟨trivial,[],H,HG.out _ (by rfl),rfl,_,_,_,_,_,_,_,_,_,_,_,_,_,_,_,_,rfl⟩)
end
end Go.Proofs.YtcgabodkegcpgaaDoor
