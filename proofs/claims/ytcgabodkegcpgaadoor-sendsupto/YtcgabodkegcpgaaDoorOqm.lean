/- perform. -/
import Derived.Test.YtcgabodkegcpgaaDoorOqi
import Derived.Conc.QuitsD
import Derived.Conc.Own2
set_option linter.unusedVariables false
set_option linter.unusedSimpArgs false
set_option maxHeartbeats 20000000
set_option maxRecDepth 100000
namespace Go.Proofs.YtcgabodkegcpgaaDoor
open Go.Conc Go.RowKit
open Br (OpD KO SO SP sfO Lk Fit Must DL Liv Clear)
section
variable {C:Ctx} {n:Nat} {s:Strat} {pv:List Nat} {H:Heap} {free:Value} {go:Bool}
theorem Sta.mem {l:List OpD}{K:Ker}{un:Bool}{w:World}(h:Sta C l K pv H free un go w):C.o∈l:=by
 obtain ⟨H',A,hH⟩:=h
 exact A.mem
theorem Sta.rfrozen {l:List OpD}{K:Ker}{un:Bool}{w:World}{d j:Nat}(h:Sta C l K pv H free un go w):(w.at d).frozen? ⟨C.o.bo,j,none⟩=false:=by
 obtain ⟨H',A,hH⟩:=h
 obtain ⟨t,hb⟩:=A.blk
 show w.frozen? _=_
 simp [World.frozen?,hb]
theorem good_free {g g':Goroutine}(x:Value)
  (hstep:∀ l K un w (Stop:Goroutine→World→Prop),Sta C l K pv H free un go w→(∀ d,Must Tryd.prog false (DL true (sfO l)) Stop g' ((w.setCell ⟨C.o.bo,10,none⟩ x).at d))→∀ d,Must Tryd.prog false (DL true (sfO l)) Stop g (w.at d))
  (hn:Good' C n s pv H x go g'):Good' C n s pv H free go g:=by
 refine good_step (R:=fun pv' H' free' g''=>pv'=pv∧H'=H∧free'=x∧g''=g') (fun l K un w Stop St h d=>?_) (fun pv' H' free' g'' ⟨h1,h2,h3,h4⟩=>by subst h1 h2 h3 h4;exact hn)
 obtain ⟨H',A,hH⟩:=St
 obtain ⟨t,A2,M2⟩:=A.set (j:=10) (x:=x) (free':=x) (un':=un) (go':=go) (by omega) rfl
 refine hstep l K un w Stop ⟨H',A,hH⟩ (h pv H x g' _ ⟨rfl,rfl,rfl,rfl⟩ (.of A2 (set_keep hH)) ⟨M2.size,fun k hk h0 h1 h2 h3=>M2.block k hk (fun e=>h0 (by obtain rfl:=List.mem_singleton.1 e;exact List.mem_cons_self ..)) h1 h2 h3⟩ (fun i hi=>.inl hi)) d
def performM (K0:Ker)(p:Nat)(kd A B:Int):M (Int × Int) :=
 if kd=1 then forkM K0 p (freeL K0 K0.nF) else if kd=2 then waitM K0 p K0.nS 0
 else if kd=3 then (withM1 13 (freeL K0 K0.nF).length A 0 B (freeL K0 K0.nF)).bind fun z=>M.pure (0,z.1)
 else if kd=4 then (againM 16 B 0 A).bind fun e=>M.pure (0,e)
 else if kd=5 then takeM A B else if kd=6 then callM 9 A 0 0
 else if kd=7 then (withM1 2 (freeL K0 K0.nF).length A 0 0 (freeL K0 K0.nF)).bind fun z=>M.pure (0,z.1)
 else M.pure (0,2)
noncomputable def perfR2:Code :=
 match Tryd.f76.body with
 | some (.seq _ (.seq _ (.seq c _)))=>c
 | _=>.skip
theorem perf_look {K0:Ker}{gF gS gD sb:Nat}{fv:Value}(v:World)(h6:v.cell? ⟨C.o.bo,6,none⟩=some (.int .i64 C.A))(h7:v.cell? ⟨C.o.bo,7,none⟩=some (.int .i64 C.B)) :
  perfR2.wp Tryd.prog (fun e a' v'=>e=.normal∧∃ bs Hn,Gain pv H v v' bs Hn∧bs=[]∧a'=⟨#[pO C.o,stVal K0 gF gS gD,undef,.pointer (some ⟨sb,0,none⟩),.int .i64 0,.int .i64 0,.int .i64 C.A,.int .i64 C.B,pO C.o,stVal K0 gF gS gD,fv,pO C.o,.pointer (some ⟨C.o.bo,10,none⟩),pO C.o,pO C.o,.pointer (some ⟨C.o.bo,5,none⟩),.pointer (some ⟨C.o.bo,5,none⟩),.pointer (some ⟨C.o.bo,6,none⟩),.int .i64 C.A,pO C.o,pO C.o,.pointer (some ⟨C.o.bo,5,none⟩),.pointer (some ⟨C.o.bo,5,none⟩),.pointer (some ⟨C.o.bo,7,none⟩),.int .i64 C.B,undef,undef,undef,undef,undef,undef,undef,undef,undef,undef,undef,undef,undef,undef,undef,undef,undef,undef,undef,undef,undef,undef,undef,undef,undef,undef,undef,undef,undef,undef,undef,undef,undef,undef,undef,undef,undef,undef,undef,undef,undef,undef,undef,undef,undef,undef,undef,undef,undef,undef,undef,undef,undef,undef,undef,undef],[]⟩) ⟨#[pO C.o,stVal K0 gF gS gD,undef,.pointer (some ⟨sb,0,none⟩),.int .i64 0,.int .i64 0,undef,undef,pO C.o,stVal K0 gF gS gD,fv,pO C.o,.pointer (some ⟨C.o.bo,10,none⟩),undef,undef,undef,undef,undef,undef,undef,undef,undef,undef,undef,undef,undef,undef,undef,undef,undef,undef,undef,undef,undef,undef,undef,undef,undef,undef,undef,undef,undef,undef,undef,undef,undef,undef,undef,undef,undef,undef,undef,undef,undef,undef,undef,undef,undef,undef,undef,undef,undef,undef,undef,undef,undef,undef,undef,undef,undef,undef,undef,undef,undef,undef,undef,undef,undef,undef,undef,undef],[]⟩ v:=by
 have HG:Hid (∀ v':World,v'.heap=v.heap→Gain pv H v v' [] H):=fun v' e=>⟨by rw [e];exact Nat.le_refl _,fun k _=>by rw [e],fun b hb=>(by cases hb),fun _ _=>rfl⟩
 unfold perfR2
 simp only [Tryd.f76,pO]
 go_quiet (fail)
 exact ⟨rfl,[],H,HG.out _ (by rfl),rfl,rfl⟩
noncomputable def performBody:Code:=(Tryd.f76.body).getD .skip
theorem perform_enter (o:OpD)(y:Value):Frame.enter Tryd.prog 76 #[pO o,y] .normal=(base 76).at ⟨#[pO o,y,undef,undef,undef,undef,undef,undef,undef,undef,undef,undef,undef,undef,undef,undef,undef,undef,undef,undef,undef,undef,undef,undef,undef,undef,undef,undef,undef,undef,undef,undef,undef,undef,undef,undef,undef,undef,undef,undef,undef,undef,undef,undef,undef,undef,undef,undef,undef,undef,undef,undef,undef,undef,undef,undef,undef,undef,undef,undef,undef,undef,undef,undef,undef,undef,undef,undef,undef,undef,undef,undef,undef,undef,undef,undef,undef,undef,undef,undef,undef],[]⟩ [.code performBody]:=by
 rw [enter_at (c:=performBody) _ Tryd.func76 rfl]
 refine congrArg (fun t=>(base 76).at ⟨t,[]⟩ [.code performBody]) ?_
 kernel_rfl
theorem good_perform (K0:Ker)(gF gS gD p:Nat)(hnF:K0.nF≤32)(hK:K0.nS≤32)(hp:p<K0.nS)(hC:C.slot=p)(hRF:Row pv H gF 75 (K0.nF*6) (fCell K0))(hRS:Row pv H gS 55 (K0.nS*20) (sCell K0))(fr:Frame)(cs:List Frame)(k:Int × Int→Bool→Strat)
  (hn:∀ x e H' free' go',Good' C n (k (x,e) go') [] H' free' go' (G (fr.finish (.tuple #[.int .i64 x,.int .i64 e])) cs)) :
  Good' C n ((performM K0 p C.kd C.A C.B).then go k) pv H free go (G (Frame.enter Tryd.prog 76 #[pO C.o,stVal K0 gF gS gD] .normal) (fr::cs)):=by
 rw [perform_enter]
 simp only [performBody,Tryd.f76,Option.getD_some,pO] at *
 unfold stVal at *
 apply good_box (X:=boxSt K0 gF gS gD) trivial
 ·intro l K un w bx Stop hbx St hd d
  have hc:=St.clear
  refine Br.liv_seq (fun d=>?_) _
  refine Br.liv_region (fun d=>?_) _
  simp only [Br.rz,Br.ix,Nat.reduceAdd]
  refine Br.must_operW rfl rfl (by decide) (fun d K' hK=>?_) _
  go_simp
  refine hK _ _ ⟨Br.dl_alloc (fun e he=>?_),?_⟩
  ·have hm:=mem_listed he
   simp [go_sem] at hm
  clear hK K'
  have hc:Clear (w.alloc (boxSt K0 gF gS gD)):=(Br.lk_new hc.lk (o:=boxSt K0 gF gS gD) trivial).1.sight
  rw [show (w.at d).alloc (boxSt K0 gF gS gD)=(w.alloc (boxSt K0 gF gS gD)).at d from rfl]
  refine Br.mo rfl rfl hc (fun d K' hK=>?_) _
  go_simp
  refine hK _ _ ⟨rfl,?_⟩
  clear hK K'
  refine Br.mo rfl rfl hc (fun d K' hK=>?_) _
  go_simp
  refine hK _ _ ⟨rfl,?_⟩
  clear hK K'
  refine Br.liv_region_end (fun d=>?_) _
  rw [← hbx];exact hd _
 intro sb hb hb'
 have hs1:∀ i∈pv,i∈sb::pv:=fun i hi=>List.mem_cons_of_mem _ hi
 have hRF1:=hRF.gain hs1 (set_agree (X:=boxSt K0 gF gS gD) hb)
 have hRS1:=hRS.gain hs1 (set_agree (X:=boxSt K0 gF gS gD) hb)
 apply good_still
 ·intro l K un w Stop St hd d
  have hc:=St.clear
  refine Br.liv_seq (fun d=>?_) _
  refine Br.liv_region (fun d=>?_) _
  simp only [Br.rz,Br.ix,Nat.reduceAdd]
  refine Br.mo rfl rfl hc (fun d K' hK=>?_) _
  go_simp
  refine hK _ _ ⟨rfl,?_⟩
  clear hK K'
  exact hd _
 refine good_loadrow (ms:=[.slice (some ⟨gF,0,none⟩) K0.nF K0.nF,.slice (some ⟨gS,0,none⟩) K0.nS K0.nS,.slice (some ⟨gD,0,none⟩) K0.nD K0.nD]) rfl rfl (by decide) rfl rfl (List.mem_cons_self ..) (Heap.set_same _ _ _) (fun j v hj=>by simpa using hj) Tryd.underlying45 rfl (by kernel_rfl) ?_
 apply good_still
 ·intro l K un w Stop St hd d
  have hc:=St.clear
  go_simp
  refine Br.mc rfl (fun u=>stepG_call rfl rfl (by decide) rfl Tryd.func78 rfl rfl (vs:=#[.agg #[.slice (some ⟨gF,0,none⟩) K0.nF K0.nF,.slice (some ⟨gS,0,none⟩) K0.nS K0.nS,.slice (some ⟨gD,0,none⟩) K0.nD K0.nD]]) (by simp [Act.eval]) u) (fun d=>?_) _
  exact hd _
 have hfl:=freeL_len K0 K0.nF
 refine good_lis (by kernel_rfl) (xs:=freeL K0 K0.nF) (by omega) (fun v hv=>free_any v K0 gF gS gD hnF (hRF1.is hv) (hv gF hRF1.1).1) _ _ (fun sl bs Hn hxs hcap hblk hok hnew hkeep=>?_)
 rw [Frame.finish_at]
 have hs2:∀ i∈sb::pv,i∈bs ++ (sb::pv):=fun i hi=>List.mem_append_right _ hi
 have hRS2:=hRS1.gain hs2 hkeep
 have hsb2:Hn sb=boxSt K0 gF gS gD:=(hkeep sb (List.mem_cons_self ..)).trans (Heap.set_same _ _ _)
 have hfb:∀ b,sl.blk=some b→b∈bs ++ (sb::pv):=fun b e=>by
  rcases hblk with h|⟨b',h,hb'⟩
  ·rw [h] at e;cases e
  ·rw [h] at e;obtain rfl:=Option.some.inj e;exact List.mem_append_left _ hb'
 have hgf:some gS≠sl.blk:=fun e=>by
  rcases hblk with h|⟨b',h,hb'⟩
  ·rw [h] at e;cases e
  ·rw [h] at e;obtain rfl:=Option.some.inj e;exact (hnew _ hb').1 hRS1.1
 have hF:Fr sl.blk (bs ++ (sb::pv)) Hn sl.val (freeL K0 K0.nF):=⟨sl,rfl,rfl,hxs,hok⟩
 obtain ⟨fp,fl,fc,hfv⟩:∃ fp fl fc,sl.val=.slice fp fl fc:=⟨_,_,_,rfl⟩
 rw [hfv] at hF ⊢
 apply good_free (.slice fp fl fc)
 ·intro l K un w Stop St hd d
  have hc:=St.clear
  go_simp
  refine Br.mo rfl rfl hc (fun d K' hK=>?_) _
  go_simp
  refine hK _ _ ⟨rfl,?_⟩
  clear hK K'
  refine Br.mo rfl rfl hc (fun d K' hK=>?_) _
  go_simp
  refine hK _ _ ⟨rfl,?_⟩
  clear hK K'
  refine Br.must_operW rfl rfl (by decide) (fun d K' hK=>?_) _
  have ej:(w.at d).cell? ⟨C.o.bo,10,none⟩=some free:=St.rcell rfl
  have ez:(w.at d).frozen? ⟨C.o.bo,10,none⟩=false:=St.rfrozen
  go_simp
  refine hK _ _ ⟨Br.dl_store (by rw [Br.sfO_mem St.mem];show 3≤10;omega) (World.block_lt_of_cell? _ _ ej) (fun e he=>?_),?_⟩
  ·have hm:=mem_listed he
   simp only [go_sem] at hm
   simp [go_sem] at hm
   rw [events_store _ _ _ _ _ _ rfl,ej] at hm
   rw [ez] at hm
   simp only [Bool.false_eq_true,if_false,List.push_toArray,List.nil_append,List.mem_toArray,List.mem_cons,List.not_mem_nil,or_false] at hm
   exact hm
  clear hK K' ej ez
  exact hd _
 apply good_still
 ·intro l K un w Stop St hd d
  have hc:=St.clear
  refine Br.liv_region_end (fun d=>?_) _
  refine Br.liv_seq (fun d=>?_) _
  exact hd _
 have key:=fun (v:World) h6 h7=>perf_look (C:=C) (pv:=bs ++ (sb::pv)) (H:=Hn) (K0:=K0) (gF:=gF) (gS:=gS) (gD:=gD) (sb:=sb) (fv:=.slice fp fl fc) v h6 h7
 unfold perfR2 stVal at key
 simp only [Tryd.f76,pO] at key
 refine good_code (by kernel_rfl) rfl rfl ⟨_,Tryd.func76⟩ (fun v hv hrec=>key v (hrec 6 _ (fun un=>by simp [oRow])) (hrec 7 _ (fun un=>by simp [oRow]))) _ _ ?_
 clear key
 rintro a' bs' Hm ⟨rfl,rfl⟩ hnew3 hkeep3
 have hRS3:=hRS2.same (hkeep3 gS hRS2.1)
 have hF3:Fr sl.blk (bs ++ (sb::pv)) Hm (.slice fp fl fc) (freeL K0 K0.nF):=Fr.same hkeep3 hF
 have hsb3:Hm sb=boxSt K0 gF gS gD:=(hkeep3 sb (List.mem_append_right _ (List.mem_cons_self ..))).trans hsb2
 have hsm:sb∈bs ++ (sb::pv):=List.mem_append_right _ (List.mem_cons_self ..)
 rw [List.nil_append]
 apply good_still
 ·intro l K un w Stop St hd d
  have hc:=St.clear
  refine Br.liv_seq (fun d=>?_) _
  refine Br.liv_seq (fun d=>?_) _
  refine Br.liv_region (fun d=>?_) _
  simp only [Br.rz,Br.ix,Nat.reduceAdd]
  refine Br.mo rfl rfl hc (fun d K' hK=>?_) _
  go_simp
  refine hK _ _ ⟨rfl,?_⟩
  clear hK K'
  refine Br.mo rfl rfl hc (fun d K' hK=>?_) _
  go_simp
  refine hK _ _ ⟨rfl,?_⟩
  clear hK K'
  refine Br.mo rfl rfl hc (fun d K' hK=>?_) _
  go_simp
  refine hK _ _ ⟨rfl,?_⟩
  clear hK K'
  refine Br.mo rfl rfl hc (fun d K' hK=>?_) _
  go_simp
  refine hK _ _ ⟨rfl,?_⟩
  clear hK K'
  refine Br.mo rfl rfl hc (fun d K' hK=>?_) _
  go_simp
  refine hK _ _ ⟨rfl,?_⟩
  clear hK K'
  refine Br.mo rfl rfl hc (fun d K' hK=>?_) _
  have e5:(w.at d).cell? ⟨C.o.bo,5,none⟩=some (.int .i64 C.kd):=St.rcell rfl
  go_simp
  refine hK _ _ ⟨rfl,?_⟩
  clear hK K'
  refine Br.liv_region_end (fun d=>?_) _
  refine Br.mc rfl (fun u=>stepG_block) (fun d=>?_) _
  exact hd _
 unfold performM
 apply good_still
 ·intro l K un w Stop St hd d
  have hc:=St.clear
  refine Br.liv_seq (fun d=>?_) _
  refine Br.liv_region (fun d=>?_) _
  simp only [Br.rz,Br.ix,Nat.reduceAdd]
  refine Br.mo rfl rfl hc (fun d K' hK=>?_) _
  go_simp
  refine hK _ _ ⟨rfl,?_⟩
  clear hK K'
  refine Br.mo rfl rfl hc (fun d K' hK=>?_) _
  go_simp
  refine hK _ _ ⟨rfl,?_⟩
  clear hK K'
  refine Br.liv_region_end (fun d=>?_) _
  exact hd _
 by_cases hk:C.kd=1
 ·rw [if_pos hk]
  have hb:(C.kd == 1)=true:=by simp [hk]
  apply good_still
  ·intro l K un w Stop St hd d
   have hc:=St.clear
   refine Br.mc rfl (fun u=>stepG_cond (t:=true) (by simpa [Act.eval] using hb)) (fun d=>?_) _
   simp only [if_true]
   refine Br.liv_seq (fun d=>?_) _
   refine Br.liv_region (fun d=>?_) _
   simp only [Br.rz,Br.ix,Nat.reduceAdd]
   refine Br.mo rfl rfl hc (fun d K' hK=>?_) _
   go_simp
   refine hK _ _ ⟨rfl,?_⟩
   clear hK K'
   exact hd _
  refine good_loadrow (ms:=[.slice (some ⟨gF,0,none⟩) K0.nF K0.nF,.slice (some ⟨gS,0,none⟩) K0.nS K0.nS,.slice (some ⟨gD,0,none⟩) K0.nD K0.nD]) rfl rfl (by decide) rfl rfl hsm hsb3 (fun j v hj=>by simpa using hj) Tryd.underlying45 rfl (by kernel_rfl) ?_
  apply good_still
  ·intro l K un w Stop St hd d
   have hc:=St.clear
   go_simp
   refine Br.mc rfl (fun u=>stepG_call rfl rfl (by decide) rfl Tryd.func79 rfl rfl (vs:=#[pO C.o,.agg #[.slice (some ⟨gF,0,none⟩) K0.nF K0.nF,.slice (some ⟨gS,0,none⟩) K0.nS K0.nS,.slice (some ⟨gD,0,none⟩) K0.nD K0.nD]]) (by simp [Act.eval]) u) (fun d=>?_) _
   exact hd _
  refine good_fork K0 gF gS gD p hK hp hC hfb hgf hRS3 hF3 _ _ _ (fun x e H' free' go'=>?_)
  rw [Frame.finish_at]
  apply good_still
  ·intro l K un w Stop St hd d
   have hc:=St.clear
   go_simp
   refine Br.mo rfl rfl hc (fun d K' hK=>?_) _
   go_simp
   refine hK _ _ ⟨rfl,?_⟩
   clear hK K'
   refine Br.mo rfl rfl hc (fun d K' hK=>?_) _
   go_simp
   refine hK _ _ ⟨rfl,?_⟩
   clear hK K'
   refine Br.mo rfl rfl hc (fun d K' hK=>?_) _
   go_simp
   refine hK _ _ ⟨rfl,?_⟩
   clear hK K'
   refine Br.mo rfl rfl hc (fun d K' hK=>?_) _
   go_simp
   refine hK _ _ ⟨rfl,?_⟩
   clear hK K'
   refine Br.liv_region_end (fun d=>?_) _
   refine Br.liv_ret (fun d=>?_) _
   exact Br.liv_leave (v:=.tuple #[.int .i64 x,.int .i64 e]) rfl rfl Tryd.func76 (resultsC_tmp2 (t:=4) (u:=5) rfl _) hd _
   done
  exact good_nil (hn x e H _ go')
 rw [if_neg hk]
 have hb:(C.kd == 1)=false:=by simp [hk]
 apply good_still
 ·intro l K un w Stop St hd d
  have hc:=St.clear
  refine Br.mc rfl (fun u=>stepG_cond (t:=false) (by simpa [Act.eval] using hb)) (fun d=>?_) _
  simp only [if_false,Bool.false_eq_true]
  exact hd _
 clear hk hb
 apply good_still
 ·intro l K un w Stop St hd d
  have hc:=St.clear
  refine Br.liv_seq (fun d=>?_) _
  refine Br.liv_region (fun d=>?_) _
  simp only [Br.rz,Br.ix,Nat.reduceAdd]
  refine Br.mo rfl rfl hc (fun d K' hK=>?_) _
  go_simp
  refine hK _ _ ⟨rfl,?_⟩
  clear hK K'
  refine Br.mo rfl rfl hc (fun d K' hK=>?_) _
  go_simp
  refine hK _ _ ⟨rfl,?_⟩
  clear hK K'
  refine Br.liv_region_end (fun d=>?_) _
  exact hd _
 by_cases hk:C.kd=2
 ·rw [if_pos hk]
  have hb:(C.kd == 2)=true:=by simp [hk]
  apply good_still
  ·intro l K un w Stop St hd d
   have hc:=St.clear
   refine Br.mc rfl (fun u=>stepG_cond (t:=true) (by simpa [Act.eval] using hb)) (fun d=>?_) _
   simp only [if_true]
   refine Br.liv_seq (fun d=>?_) _
   refine Br.liv_region (fun d=>?_) _
   simp only [Br.rz,Br.ix,Nat.reduceAdd]
   refine Br.mo rfl rfl hc (fun d K' hK=>?_) _
   go_simp
   refine hK _ _ ⟨rfl,?_⟩
   clear hK K'
   exact hd _
  refine good_loadrow (ms:=[.slice (some ⟨gF,0,none⟩) K0.nF K0.nF,.slice (some ⟨gS,0,none⟩) K0.nS K0.nS,.slice (some ⟨gD,0,none⟩) K0.nD K0.nD]) rfl rfl (by decide) rfl rfl hsm hsb3 (fun j v hj=>by simpa using hj) Tryd.underlying45 rfl (by kernel_rfl) ?_
  apply good_still
  ·intro l K un w Stop St hd d
   have hc:=St.clear
   go_simp
   refine Br.mc rfl (fun u=>stepG_call rfl rfl (by decide) rfl Tryd.func80 rfl rfl (vs:=#[pO C.o,.agg #[.slice (some ⟨gF,0,none⟩) K0.nF K0.nF,.slice (some ⟨gS,0,none⟩) K0.nS K0.nS,.slice (some ⟨gD,0,none⟩) K0.nD K0.nD]]) (by simp [Act.eval]) u) (fun d=>?_) _
   exact hd _
  rw [← hC]
  refine good_wait K0 gF gS gD hK hRS3 _ _ _ (fun x e go' H'=>?_)
  rw [Frame.finish_at]
  apply good_still
  ·intro l K un w Stop St hd d
   have hc:=St.clear
   go_simp
   refine Br.mo rfl rfl hc (fun d K' hK=>?_) _
   go_simp
   refine hK _ _ ⟨rfl,?_⟩
   clear hK K'
   refine Br.mo rfl rfl hc (fun d K' hK=>?_) _
   go_simp
   refine hK _ _ ⟨rfl,?_⟩
   clear hK K'
   refine Br.mo rfl rfl hc (fun d K' hK=>?_) _
   go_simp
   refine hK _ _ ⟨rfl,?_⟩
   clear hK K'
   refine Br.mo rfl rfl hc (fun d K' hK=>?_) _
   go_simp
   refine hK _ _ ⟨rfl,?_⟩
   clear hK K'
   refine Br.liv_region_end (fun d=>?_) _
   refine Br.liv_ret (fun d=>?_) _
   exact Br.liv_leave (v:=.tuple #[.int .i64 x,.int .i64 e]) rfl rfl Tryd.func76 (resultsC_tmp2 (t:=4) (u:=5) rfl _) hd _
   done
  exact good_nil (hn x e H _ go')
 rw [if_neg hk]
 have hb:(C.kd == 2)=false:=by simp [hk]
 apply good_still
 ·intro l K un w Stop St hd d
  have hc:=St.clear
  refine Br.mc rfl (fun u=>stepG_cond (t:=false) (by simpa [Act.eval] using hb)) (fun d=>?_) _
  simp only [if_false,Bool.false_eq_true]
  exact hd _
 clear hk hb
 apply good_still
 ·intro l K un w Stop St hd d
  have hc:=St.clear
  refine Br.liv_seq (fun d=>?_) _
  refine Br.liv_region (fun d=>?_) _
  simp only [Br.rz,Br.ix,Nat.reduceAdd]
  refine Br.mo rfl rfl hc (fun d K' hK=>?_) _
  go_simp
  refine hK _ _ ⟨rfl,?_⟩
  clear hK K'
  refine Br.mo rfl rfl hc (fun d K' hK=>?_) _
  go_simp
  refine hK _ _ ⟨rfl,?_⟩
  clear hK K'
  refine Br.liv_region_end (fun d=>?_) _
  exact hd _
 by_cases hk:C.kd=3
 ·rw [if_pos hk]
  have hb:(C.kd == 3)=true:=by simp [hk]
  rw [M.bind_then]
  apply good_still
  ·intro l K un w Stop St hd d
   have hc:=St.clear
   refine Br.mc rfl (fun u=>stepG_cond (t:=true) (by simpa [Act.eval] using hb)) (fun d=>?_) _
   simp only [if_true]
   refine Br.liv_seq (fun d=>?_) _
   refine Br.liv_region (fun d=>?_) _
   simp only [Br.rz,Br.ix,Nat.reduceAdd]
   refine Br.mo rfl rfl hc (fun d K' hK=>?_) _
   go_simp
   refine hK _ _ ⟨rfl,?_⟩
   clear hK K'
   refine Br.mo rfl rfl hc (fun d K' hK=>?_) _
   go_simp
   refine hK _ _ ⟨rfl,?_⟩
   clear hK K'
   refine Br.mo rfl rfl hc (fun d K' hK=>?_) _
   go_simp
   refine hK _ _ ⟨rfl,?_⟩
   clear hK K'
   refine Br.mo rfl rfl hc (fun d K' hK=>?_) _
   go_simp
   refine hK _ _ ⟨rfl,?_⟩
   clear hK K'
   refine Br.mc rfl (fun u=>stepG_call rfl rfl (by decide) rfl Tryd.func81 rfl rfl (vs:=#[pO C.o,.int .i64 13,.agg #[.int .i64 C.A,.int .i64 0,.int .i64 C.B],.int .i64 1]) (by simp [Act.eval]) u) (fun d=>?_) _
   exact hd _
  refine good_with1 pop_spec (fun xs _=>popL_len xs) hF3 hfb 13 C.A 0 C.B _ _ _ (fun e xs' H' free' go' hF' hH'=>?_)
  rw [Frame.finish_at,M.pure_then]
  apply good_still
  ·intro l K un w Stop St hd d
   have hc:=St.clear
   go_simp
   refine Br.mo rfl rfl hc (fun d K' hK=>?_) _
   go_simp
   refine hK _ _ ⟨rfl,?_⟩
   clear hK K'
   refine Br.mo rfl rfl hc (fun d K' hK=>?_) _
   go_simp
   refine hK _ _ ⟨rfl,?_⟩
   clear hK K'
   refine Br.liv_region_end (fun d=>?_) _
   refine Br.liv_ret (fun d=>?_) _
   exact Br.liv_leave (v:=.tuple #[.int .i64 0,.int .i64 e]) rfl rfl Tryd.func76 (resultsC_tmp2 (t:=4) (u:=5) rfl _) hd _
   done
  exact good_nil (hn 0 e H _ go')
 rw [if_neg hk]
 have hb:(C.kd == 3)=false:=by simp [hk]
 apply good_still
 ·intro l K un w Stop St hd d
  have hc:=St.clear
  refine Br.mc rfl (fun u=>stepG_cond (t:=false) (by simpa [Act.eval] using hb)) (fun d=>?_) _
  simp only [if_false,Bool.false_eq_true]
  exact hd _
 clear hk hb
 apply good_still
 ·intro l K un w Stop St hd d
  have hc:=St.clear
  refine Br.liv_seq (fun d=>?_) _
  refine Br.liv_region (fun d=>?_) _
  simp only [Br.rz,Br.ix,Nat.reduceAdd]
  refine Br.mo rfl rfl hc (fun d K' hK=>?_) _
  go_simp
  refine hK _ _ ⟨rfl,?_⟩
  clear hK K'
  refine Br.mo rfl rfl hc (fun d K' hK=>?_) _
  go_simp
  refine hK _ _ ⟨rfl,?_⟩
  clear hK K'
  refine Br.liv_region_end (fun d=>?_) _
  exact hd _
 by_cases hk:C.kd=4
 ·rw [if_pos hk]
  have hb:(C.kd == 4)=true:=by simp [hk]
  rw [M.bind_then]
  apply good_still
  ·intro l K un w Stop St hd d
   have hc:=St.clear
   refine Br.mc rfl (fun u=>stepG_cond (t:=true) (by simpa [Act.eval] using hb)) (fun d=>?_) _
   simp only [if_true]
   refine Br.liv_seq (fun d=>?_) _
   refine Br.liv_region (fun d=>?_) _
   simp only [Br.rz,Br.ix,Nat.reduceAdd]
   refine Br.mo rfl rfl hc (fun d K' hK=>?_) _
   go_simp
   refine hK _ _ ⟨rfl,?_⟩
   clear hK K'
   refine Br.mo rfl rfl hc (fun d K' hK=>?_) _
   go_simp
   refine hK _ _ ⟨rfl,?_⟩
   clear hK K'
   refine Br.mo rfl rfl hc (fun d K' hK=>?_) _
   go_simp
   refine hK _ _ ⟨rfl,?_⟩
   clear hK K'
   refine Br.mo rfl rfl hc (fun d K' hK=>?_) _
   go_simp
   refine hK _ _ ⟨rfl,?_⟩
   clear hK K'
   refine Br.mc rfl (fun u=>stepG_call rfl rfl (by decide) rfl Tryd.func82 rfl rfl (vs:=callArgs C.o 16 C.B 0 C.A) (by simp [Act.eval]) u) (fun d=>?_) _
   exact hd _
  refine good_again 16 C.B 0 C.A _ _ _ (fun e go'=>?_)
  rw [Frame.finish_at,M.pure_then]
  apply good_still
  ·intro l K un w Stop St hd d
   have hc:=St.clear
   go_simp
   refine Br.mo rfl rfl hc (fun d K' hK=>?_) _
   go_simp
   refine hK _ _ ⟨rfl,?_⟩
   clear hK K'
   refine Br.mo rfl rfl hc (fun d K' hK=>?_) _
   go_simp
   refine hK _ _ ⟨rfl,?_⟩
   clear hK K'
   refine Br.liv_region_end (fun d=>?_) _
   refine Br.liv_ret (fun d=>?_) _
   exact Br.liv_leave (v:=.tuple #[.int .i64 0,.int .i64 e]) rfl rfl Tryd.func76 (resultsC_tmp2 (t:=4) (u:=5) rfl _) hd _
   done
  exact good_nil (hn 0 e H _ go')
 rw [if_neg hk]
 have hb:(C.kd == 4)=false:=by simp [hk]
 apply good_still
 ·intro l K un w Stop St hd d
  have hc:=St.clear
  refine Br.mc rfl (fun u=>stepG_cond (t:=false) (by simpa [Act.eval] using hb)) (fun d=>?_) _
  simp only [if_false,Bool.false_eq_true]
  exact hd _
 clear hk hb
 apply good_still
 ·intro l K un w Stop St hd d
  have hc:=St.clear
  refine Br.liv_seq (fun d=>?_) _
  refine Br.liv_region (fun d=>?_) _
  simp only [Br.rz,Br.ix,Nat.reduceAdd]
  refine Br.mo rfl rfl hc (fun d K' hK=>?_) _
  go_simp
  refine hK _ _ ⟨rfl,?_⟩
  clear hK K'
  refine Br.mo rfl rfl hc (fun d K' hK=>?_) _
  go_simp
  refine hK _ _ ⟨rfl,?_⟩
  clear hK K'
  refine Br.liv_region_end (fun d=>?_) _
  exact hd _
 by_cases hk:C.kd=5
 ·rw [if_pos hk]
  have hb:(C.kd == 5)=true:=by simp [hk]
  apply good_still
  ·intro l K un w Stop St hd d
   have hc:=St.clear
   refine Br.mc rfl (fun u=>stepG_cond (t:=true) (by simpa [Act.eval] using hb)) (fun d=>?_) _
   simp only [if_true]
   refine Br.liv_seq (fun d=>?_) _
   refine Br.liv_region (fun d=>?_) _
   simp only [Br.rz,Br.ix,Nat.reduceAdd]
   refine Br.mo rfl rfl hc (fun d K' hK=>?_) _
   go_simp
   refine hK _ _ ⟨rfl,?_⟩
   clear hK K'
   refine Br.mo rfl rfl hc (fun d K' hK=>?_) _
   go_simp
   refine hK _ _ ⟨rfl,?_⟩
   clear hK K'
   refine Br.mo rfl rfl hc (fun d K' hK=>?_) _
   go_simp
   refine hK _ _ ⟨rfl,?_⟩
   clear hK K'
   refine Br.mc rfl (fun u=>stepG_call rfl rfl (by decide) rfl Tryd.func83 rfl rfl (vs:=#[pO C.o,.int .i64 C.A,.int .i64 C.B]) (by simp [Act.eval]) u) (fun d=>?_) _
   exact hd _
  refine good_take C.A C.B _ _ _ (fun x e go'=>?_)
  rw [Frame.finish_at]
  apply good_still
  ·intro l K un w Stop St hd d
   have hc:=St.clear
   go_simp
   refine Br.mo rfl rfl hc (fun d K' hK=>?_) _
   go_simp
   refine hK _ _ ⟨rfl,?_⟩
   clear hK K'
   refine Br.mo rfl rfl hc (fun d K' hK=>?_) _
   go_simp
   refine hK _ _ ⟨rfl,?_⟩
   clear hK K'
   refine Br.mo rfl rfl hc (fun d K' hK=>?_) _
   go_simp
   refine hK _ _ ⟨rfl,?_⟩
   clear hK K'
   refine Br.mo rfl rfl hc (fun d K' hK=>?_) _
   go_simp
   refine hK _ _ ⟨rfl,?_⟩
   clear hK K'
   refine Br.liv_region_end (fun d=>?_) _
   refine Br.liv_ret (fun d=>?_) _
   exact Br.liv_leave (v:=.tuple #[.int .i64 x,.int .i64 e]) rfl rfl Tryd.func76 (resultsC_tmp2 (t:=4) (u:=5) rfl _) hd _
   done
  exact good_nil (hn x e H _ go')
 rw [if_neg hk]
 have hb:(C.kd == 5)=false:=by simp [hk]
 apply good_still
 ·intro l K un w Stop St hd d
  have hc:=St.clear
  refine Br.mc rfl (fun u=>stepG_cond (t:=false) (by simpa [Act.eval] using hb)) (fun d=>?_) _
  simp only [if_false,Bool.false_eq_true]
  exact hd _
 clear hk hb
 apply good_still
 ·intro l K un w Stop St hd d
  have hc:=St.clear
  refine Br.liv_seq (fun d=>?_) _
  refine Br.liv_region (fun d=>?_) _
  simp only [Br.rz,Br.ix,Nat.reduceAdd]
  refine Br.mo rfl rfl hc (fun d K' hK=>?_) _
  go_simp
  refine hK _ _ ⟨rfl,?_⟩
  clear hK K'
  refine Br.mo rfl rfl hc (fun d K' hK=>?_) _
  go_simp
  refine hK _ _ ⟨rfl,?_⟩
  clear hK K'
  refine Br.liv_region_end (fun d=>?_) _
  exact hd _
 by_cases hk:C.kd=6
 ·rw [if_pos hk]
  have hb:(C.kd == 6)=true:=by simp [hk]
  apply good_still
  ·intro l K un w Stop St hd d
   have hc:=St.clear
   refine Br.mc rfl (fun u=>stepG_cond (t:=true) (by simpa [Act.eval] using hb)) (fun d=>?_) _
   simp only [if_true]
   refine Br.liv_seq (fun d=>?_) _
   refine Br.liv_region (fun d=>?_) _
   simp only [Br.rz,Br.ix,Nat.reduceAdd]
   refine Br.mo rfl rfl hc (fun d K' hK=>?_) _
   go_simp
   refine hK _ _ ⟨rfl,?_⟩
   clear hK K'
   refine Br.mo rfl rfl hc (fun d K' hK=>?_) _
   go_simp
   refine hK _ _ ⟨rfl,?_⟩
   clear hK K'
   refine Br.mo rfl rfl hc (fun d K' hK=>?_) _
   go_simp
   refine hK _ _ ⟨rfl,?_⟩
   clear hK K'
   refine Br.mc rfl (fun u=>stepG_call rfl rfl (by decide) rfl Tryd.func84 rfl rfl (vs:=callArgs C.o 9 C.A 0 0) (by simp [Act.eval]) u) (fun d=>?_) _
   exact hd _
  refine good_call 9 C.A 0 0 _ _ _ (fun x e go' hg=>?_)
  rw [Frame.finish_at]
  apply good_still
  ·intro l K un w Stop St hd d
   have hc:=St.clear
   go_simp
   refine Br.mo rfl rfl hc (fun d K' hK=>?_) _
   go_simp
   refine hK _ _ ⟨rfl,?_⟩
   clear hK K'
   refine Br.mo rfl rfl hc (fun d K' hK=>?_) _
   go_simp
   refine hK _ _ ⟨rfl,?_⟩
   clear hK K'
   refine Br.mo rfl rfl hc (fun d K' hK=>?_) _
   go_simp
   refine hK _ _ ⟨rfl,?_⟩
   clear hK K'
   refine Br.mo rfl rfl hc (fun d K' hK=>?_) _
   go_simp
   refine hK _ _ ⟨rfl,?_⟩
   clear hK K'
   refine Br.liv_region_end (fun d=>?_) _
   refine Br.liv_ret (fun d=>?_) _
   exact Br.liv_leave (v:=.tuple #[.int .i64 x,.int .i64 e]) rfl rfl Tryd.func76 (resultsC_tmp2 (t:=4) (u:=5) rfl _) hd _
   done
  exact good_nil (hn x e H _ go')
 rw [if_neg hk]
 have hb:(C.kd == 6)=false:=by simp [hk]
 apply good_still
 ·intro l K un w Stop St hd d
  have hc:=St.clear
  refine Br.mc rfl (fun u=>stepG_cond (t:=false) (by simpa [Act.eval] using hb)) (fun d=>?_) _
  simp only [if_false,Bool.false_eq_true]
  exact hd _
 clear hk hb
 apply good_still
 ·intro l K un w Stop St hd d
  have hc:=St.clear
  refine Br.liv_seq (fun d=>?_) _
  refine Br.liv_region (fun d=>?_) _
  simp only [Br.rz,Br.ix,Nat.reduceAdd]
  refine Br.mo rfl rfl hc (fun d K' hK=>?_) _
  go_simp
  refine hK _ _ ⟨rfl,?_⟩
  clear hK K'
  refine Br.mo rfl rfl hc (fun d K' hK=>?_) _
  go_simp
  refine hK _ _ ⟨rfl,?_⟩
  clear hK K'
  refine Br.liv_region_end (fun d=>?_) _
  exact hd _
 by_cases hk:C.kd=7
 ·rw [if_pos hk]
  have hb:(C.kd == 7)=true:=by simp [hk]
  rw [M.bind_then]
  apply good_still
  ·intro l K un w Stop St hd d
   have hc:=St.clear
   refine Br.mc rfl (fun u=>stepG_cond (t:=true) (by simpa [Act.eval] using hb)) (fun d=>?_) _
   simp only [if_true]
   refine Br.liv_seq (fun d=>?_) _
   refine Br.liv_region (fun d=>?_) _
   simp only [Br.rz,Br.ix,Nat.reduceAdd]
   refine Br.mo rfl rfl hc (fun d K' hK=>?_) _
   go_simp
   refine hK _ _ ⟨rfl,?_⟩
   clear hK K'
   refine Br.mo rfl rfl hc (fun d K' hK=>?_) _
   go_simp
   refine hK _ _ ⟨rfl,?_⟩
   clear hK K'
   refine Br.mo rfl rfl hc (fun d K' hK=>?_) _
   go_simp
   refine hK _ _ ⟨rfl,?_⟩
   clear hK K'
   refine Br.mc rfl (fun u=>stepG_call rfl rfl (by decide) rfl Tryd.func81 rfl rfl (vs:=#[pO C.o,.int .i64 2,.agg #[.int .i64 C.A,.int .i64 0,.int .i64 0],.int .i64 1]) (by simp [Act.eval]) u) (fun d=>?_) _
   exact hd _
  refine good_with1 pop_spec (fun xs _=>popL_len xs) hF3 hfb 2 C.A 0 0 _ _ _ (fun e xs' H' free' go' hF' hH'=>?_)
  rw [Frame.finish_at,M.pure_then]
  apply good_still
  ·intro l K un w Stop St hd d
   have hc:=St.clear
   go_simp
   refine Br.mo rfl rfl hc (fun d K' hK=>?_) _
   go_simp
   refine hK _ _ ⟨rfl,?_⟩
   clear hK K'
   refine Br.mo rfl rfl hc (fun d K' hK=>?_) _
   go_simp
   refine hK _ _ ⟨rfl,?_⟩
   clear hK K'
   refine Br.liv_region_end (fun d=>?_) _
   refine Br.liv_ret (fun d=>?_) _
   exact Br.liv_leave (v:=.tuple #[.int .i64 0,.int .i64 e]) rfl rfl Tryd.func76 (resultsC_tmp2 (t:=4) (u:=5) rfl _) hd _
   done
  exact good_nil (hn 0 e H _ go')
 rw [if_neg hk]
 have hb:(C.kd == 7)=false:=by simp [hk]
 apply good_still
 ·intro l K un w Stop St hd d
  have hc:=St.clear
  refine Br.mc rfl (fun u=>stepG_cond (t:=false) (by simpa [Act.eval] using hb)) (fun d=>?_) _
  simp only [if_false,Bool.false_eq_true]
  exact hd _
 clear hk hb
 rw [M.pure_then]
 apply good_still
 ·intro l K un w Stop St hd d
  have hc:=St.clear
  refine Br.liv_skip (fun d=>?_) _
  refine Br.mc rfl (fun u=>stepG_inBlock) (fun d=>?_) _
  refine Br.liv_seq (fun d=>?_) _
  refine Br.liv_region (fun d=>?_) _
  simp only [Br.rz,Br.ix,Nat.reduceAdd]
  refine Br.mo rfl rfl hc (fun d K' hK=>?_) _
  go_simp
  refine hK _ _ ⟨rfl,?_⟩
  clear hK K'
  refine Br.mo rfl rfl hc (fun d K' hK=>?_) _
  go_simp
  refine hK _ _ ⟨rfl,?_⟩
  clear hK K'
  refine Br.liv_region_end (fun d=>?_) _
  refine Br.liv_ret (fun d=>?_) _
  exact Br.liv_leave (v:=.tuple #[.int .i64 0,.int .i64 2]) rfl rfl Tryd.func76 (resultsC_tmp2 (t:=4) (u:=5) rfl _) hd _
  done
 exact good_nil (hn 0 2 H _ go)
end
noncomputable def bot:Frame:={ (default:Frame) with fn:=Tryd.prog.funcs.size,defers:=[],mode:=.panicking [goexitEntry] }
noncomputable def runBody:Code:=(Tryd.f63.body).getD .skip
noncomputable def runDef (o:OpD):Deferred :=
 match Tryd.f63.body with
 | some (.seq (.region _ ops _) _)=>{ target:=.builtin .close (match ops[4]? with|some x=>(match x.op with|.defer c=>c.argTypes|_=>#[])|none=>#[]) 0 #[false],args:=#[.chan (some o.to)] }
 | _=>default
noncomputable def runFr (o:OpD):Frame :=
 match Tryd.f63.body with
 | some (.seq _ (.seq (.region _ ops _) c))=>(baseD 63).at ⟨#[pO o,undef,pO o,pO o,.pointer (some ⟨o.bo,1,none⟩),.chan (some o.to),pO o,undef,undef,undef,undef,undef,undef,undef,undef,undef,undef,undef,undef,undef,undef,undef,undef,undef,undef,undef],[runDef o]⟩ [.inRegion ops [1],.code c]
 | _=>default
noncomputable def runFr2 (o:OpD)(bk:Nat):Frame :=
 match Tryd.f63.body with
 | some (.seq _ (.seq _ (.cond _ (.region _ ops _) _)))=>(baseD 63).at ⟨#[pO o,undef,pO o,pO o,.pointer (some ⟨o.bo,1,none⟩),.chan (some o.to),pO o,.bool true,undef,pO o,pO o,pO o,pO o,pO o,.pointer (some ⟨o.bo,3,none⟩),.pointer (some ⟨bk,0,none⟩),undef,undef,undef,undef,undef,undef,undef,undef,undef,undef],[runDef o]⟩ [.inRegion ops [7,8,9,10,11,12,13,14,15,16,17,18,19]]
 | _=>default
noncomputable def runFr3 (o:OpD)(bk:Nat)(st:Value):Frame :=
 match Tryd.f63.body with
 | some (.seq _ (.seq _ (.cond _ (.region _ ops _) _)))=>(baseD 63).at ⟨#[pO o,undef,pO o,pO o,.pointer (some ⟨o.bo,1,none⟩),.chan (some o.to),pO o,.bool true,undef,pO o,pO o,pO o,pO o,pO o,.pointer (some ⟨o.bo,3,none⟩),.pointer (some ⟨bk,0,none⟩),st,undef,undef,undef,undef,undef,undef,undef,undef,undef],[runDef o]⟩ [.inRegion ops [8,9,10,11,12,13,14,15,16,17,18,19]]
 | _=>default
theorem born_step (o:OpD)(w:World):stepG Tryd.prog false (born Tryd.prog (dcall 63 #[pO o])) w=.go (G ((baseD 63).at ⟨#[pO o,undef,undef,undef,undef,undef,undef,undef,undef,undef,undef,undef,undef,undef,undef,undef,undef,undef,undef,undef,undef,undef,undef,undef,undef,undef],[]⟩ [.code runBody]) [bot]) w #[]:=by
 simp [born,dcall,stepG,unwind,callDeferred,invoke,callFunc,Tryd.func63,Tryd.f63,seen,GStep.after,G,Frame.enter,Frame.at,baseD,bot,runBody]
theorem quits_tail (tm:Array Value):QuitsD Tryd.prog 2 0 (G { (baseD 63).at ⟨tm,[]⟩ [] with mode:=.returning } [bot]):=by
 refine QuitsD.ctl (g':=G bot []) rfl (fun w=>?_) ?_
 ·simp [G,stepG,unwind,doReturn,results,Frame.at,baseD,bot,Tryd.func63,Tryd.f63,seen,GStep.after,goexitEntry]
 refine QuitsD.ctl (g':={ G bot [] with status:=.finished }) rfl (fun w=>?_) ⟨rfl,rfl⟩
 simp [G,stepG,unwind,bot,goexitEntry,Frame.catches]
 rfl
theorem run_close (o:OpD)(tm:Array Value){cap k:Nat}{u:World}(hc:u.heap[o.to]?=some (.chan cap #[] false k k false)) :
  stepG Tryd.prog false (G { (baseD 63).at ⟨tm,[runDef o]⟩ [] with mode:=.returning } [bot]) u=.go (G { (baseD 63).at ⟨tm,[]⟩ [] with mode:=.returning } [bot]) (u.setChan o.to cap #[] true k k false) (closeEvents o.to):=by
 have hr:∀ (ats:Array TypeId) (cs:Array Bool),(invoke (.builtin .close ats 0 cs) #[.chan (some o.to)]).run Tryd.prog u=.ok (.value (.tuple #[])) (u.setChan o.to cap #[] true k k false):=fun ats cs=>by
  simp [go_sem,invoke,run_close_open _ _ hc,World.setChan]
 have he:∀ (ats:Array TypeId) (cs:Array Bool),(invoke (.builtin .close ats 0 cs) #[.chan (some o.to)]).events Tryd.prog u #[]=closeEvents o.to:=fun ats cs=>by
  simp [go_sem,invoke,events_close_open _ _ hc,closeEvents]
 have hs:seen Tryd.prog 63 (closeEvents o.to)=closeEvents o.to:=seen_eq (by kernel_rfl) (by intro e he f;simp only [closeEvents,List.mem_toArray,List.mem_cons,List.not_mem_nil,or_false] at he;rcases he with rfl|rfl<;>simp)
 unfold runDef
 simp only [Tryd.f63]
 have hr':=hr
 have he':=he
 simp [G,stepG,unwind,callDeferred,Frame.at,baseD,hr,he,GStep.after,hs]
theorem at_end (C:Ctx)(tm:Array Value):AtEnd C (G { (baseD 63).at ⟨tm,[runDef C.o]⟩ [] with mode:=.returning } [bot]) :=
 ⟨rfl,rfl,_,rfl,fun cap k u hc=>run_close C.o tm hc,2,quits_tail tm⟩
end Go.Proofs.YtcgabodkegcpgaaDoor
