/- takeBack, giveFiles, copyPages. No statement of the program is proved here. -/
import Derived.Test.YtcgabodkegcpgaaDoorOpo
namespace Go.Proofs.YtcgabodkegcpgaaDoor
open Go.Conc Go.RowKit
open Br (OpD KO SO SP sfO Lk Fit Must DL Liv Clear)
set_option linter.unusedVariables false
set_option linter.unusedSimpArgs false
set_option maxHeartbeats 20000000
section
variable {C:Ctx} {n:Nat} {pv:List Nat} {H:Heap} {free:Value} {go:Bool}
def backM (child:Int)(pages files:List Int)(why:Int):M Int:=(apartM child pages files).bind fun z=>M.pure (if z.2=3 then 3 else why)
noncomputable def backBody:Code:=(Tryd.f91.body).getD .skip
theorem back_enter (o:OpD)(x v:Int)(y z:Value):Frame.enter Tryd.prog 91 #[pO o,.int .i64 x,y,z,.int .i64 v] .normal=(base 91).at ⟨#[pO o,.int .i64 x,y,z,.int .i64 v,undef,undef,undef,undef,undef,undef,undef,undef,undef,undef,undef,undef,undef,undef,undef,undef,undef,undef,undef,undef],[]⟩ [.code backBody]:=by
 rw [enter_at (c:=backBody) _ Tryd.func91 rfl]
 refine congrArg (fun t=>(base 91).at ⟨t,[]⟩ [.code backBody]) ?_
 kernel_rfl
set_option maxRecDepth 100000 in
theorem good_back (child why:Int)(ps fs:Sl)(hps:ps.ok pv H)(hfs:fs.ok pv H)(fr:Frame)(cs:List Frame)(k:Int→Bool→Strat)(hn:∀ e go',Good' C n (k e go') pv H free go' (G (fr.finish (.int .i64 e)) cs)) :
  Good' C n ((backM child ps.xs fs.xs why).then go k) pv H free go (G (Frame.enter Tryd.prog 91 #[pO C.o,.int .i64 child,ps.val,fs.val,.int .i64 why] .normal) (fr::cs)):=by
 unfold backM
 rw [M.bind_then,back_enter]
 simp only [backBody,Tryd.f91,Option.getD_some,pO]
 apply good_still
 ·intro l K un w Stop St hd d
  have hc:=St.clear
  refine Br.liv_seq (fun d=>?_) _
  refine Br.liv_region (fun d=>?_) _
  simp only [Br.rz,Br.ix,Nat.reduceAdd]
  refine Br.mo rfl rfl hc (fun d K' hK=>?_) _
  go_simp
  refine hK _ _ ⟨rfl,?_⟩
  clear hK K'
  refine Br.liv_region_end (fun d=>?_) _
  refine Br.liv_seq (fun d=>?_) _
  refine Br.liv_seq (fun d=>?_) _
  refine Br.liv_region (fun d=>?_) _
  simp only [Br.rz,Br.ix,Nat.reduceAdd]
  refine Br.mo rfl rfl hc (fun d K' hK=>?_) _
  go_simp
  refine hK _ _ ⟨rfl,?_⟩
  clear hK K'
  refine Br.mo rfl rfl hc (fun d K' hK=>?_) _
  go_simp
  refine hK _ _ ⟨rfl,?_⟩
  clear hK K'
  refine Br.mo rfl rfl hc (fun d K' hK=>?_) _
  go_simp
  refine hK _ _ ⟨rfl,?_⟩
  clear hK K'
  refine Br.mo rfl rfl hc (fun d K' hK=>?_) _
  go_simp
  refine hK _ _ ⟨rfl,?_⟩
  clear hK K'
  refine Br.mc rfl (fun u=>stepG_call rfl rfl (by decide) rfl Tryd.func92 rfl rfl (vs:=#[pO C.o,.int .i64 child,ps.val,fs.val]) (by simp [Act.eval]) u) (fun d=>?_) _
  exact hd _
 refine good_apart child ps fs hps hfs _ _ _ (fun x e go'=>?_)
 rw [Frame.finish_at,M.pure_then]
 apply good_still
 ·intro l K un w Stop St hd d
  have hc:=St.clear
  go_simp
  refine Br.mo rfl rfl hc (fun d K' hK=>?_) _
  go_simp
  refine hK _ _ ⟨rfl,?_⟩
  clear hK K'
  refine Br.mo rfl rfl hc (fun d K' hK=>?_) _
  go_simp
  refine hK _ _ ⟨rfl,?_⟩
  clear hK K'
  refine Br.mo rfl rfl hc (fun d K' hK=>?_) _
  go_simp
  refine hK _ _ ⟨rfl,?_⟩
  clear hK K'
  refine Br.mo rfl rfl hc (fun d K' hK=>?_) _
  go_simp
  refine hK _ _ ⟨rfl,?_⟩
  clear hK K'
  refine Br.mo rfl rfl hc (fun d K' hK=>?_) _
  go_simp
  refine hK _ _ ⟨rfl,?_⟩
  clear hK K'
  refine Br.liv_region_end (fun d=>?_) _
  refine Br.liv_seq (fun d=>?_) _
  refine Br.liv_region (fun d=>?_) _
  simp only [Br.rz,Br.ix,Nat.reduceAdd]
  refine Br.mo rfl rfl hc (fun d K' hK=>?_) _
  go_simp
  refine hK _ _ ⟨rfl,?_⟩
  clear hK K'
  refine Br.mo rfl rfl hc (fun d K' hK=>?_) _
  go_simp
  refine hK _ _ ⟨rfl,?_⟩
  clear hK K'
  refine Br.liv_region_end (fun d=>?_) _
  exact hd _
 by_cases he:e=3
 ·subst he
  rw [if_pos rfl]
  apply good_still
  ·intro l K un w Stop St hd d
   have hc:=St.clear
   refine Br.mc rfl (fun u=>stepG_cond (t:=true) rfl) (fun d=>?_) _
   simp only [if_true,if_false,Bool.false_eq_true,↓reduceIte]
   refine Br.liv_seq (fun d=>?_) _
   refine Br.liv_region (fun d=>?_) _
   simp only [Br.rz,Br.ix,Nat.reduceAdd]
   refine Br.mo rfl rfl hc (fun d K' hK=>?_) _
   go_simp
   refine hK _ _ ⟨rfl,?_⟩
   clear hK K'
   refine Br.mo rfl rfl hc (fun d K' hK=>?_) _
   go_simp
   refine hK _ _ ⟨rfl,?_⟩
   clear hK K'
   refine Br.liv_region_end (fun d=>?_) _
   refine Br.liv_ret (fun d=>?_) _
   exact Br.liv_leave (v:=.int .i64 3) rfl rfl Tryd.func91 (resultsC_tmp (t:=10) rfl _) hd _
   done
  exact hn 3 go'
 ·rw [if_neg he]
  have hb:(e == 3)=false:=by simp [he]
  apply good_still
  ·intro l K un w Stop St hd d
   have hc:=St.clear
   refine Br.mc rfl (fun u=>stepG_cond (t:=false) (by simpa [Act.eval] using hb)) (fun d=>?_) _
   simp only [if_false,Bool.false_eq_true]
   refine Br.liv_skip (fun d=>?_) _
   refine Br.liv_seq (fun d=>?_) _
   refine Br.liv_region (fun d=>?_) _
   simp only [Br.rz,Br.ix,Nat.reduceAdd]
   refine Br.mo rfl rfl hc (fun d K' hK=>?_) _
   go_simp
   refine hK _ _ ⟨rfl,?_⟩
   clear hK K'
   refine Br.mo rfl rfl hc (fun d K' hK=>?_) _
   go_simp
   refine hK _ _ ⟨rfl,?_⟩
   clear hK K'
   refine Br.liv_region_end (fun d=>?_) _
   refine Br.liv_ret (fun d=>?_) _
   exact Br.liv_leave (v:=.int .i64 why) rfl rfl Tryd.func91 (resultsC_tmp (t:=10) rfl _) hd _
   done
  exact hn why go'
def Sl.take (s:Sl)(i:Nat):Sl:=⟨s.blk,s.cap,s.xs.take i⟩
theorem Sl.take_ok {s:Sl}{pv:List Nat}{H:Heap}(h:s.ok pv H)(i:Nat):(s.take i).ok pv H:=by
 refine ⟨by simp only [Sl.take,List.length_take];have:=h.1;omega,?_⟩
 rcases h.2 with h|⟨b,c,t,h1,h2,h3,h4⟩
 ·exact .inl (by simp [Sl.take,h])
 ·refine .inr ⟨b,c,t,h1,h2,h3,fun j x hx=>h4 j x ?_⟩
  simp only [Sl.take,List.getElem?_take] at hx
  split at hx
  ·exact hx
  ·cases hx
theorem Sl.take_all (s:Sl):s.take s.xs.length=s:=by simp [Sl.take]
def giveM (child:Int):List Int→Nat→M (Nat × Int)
 | [],i=>M.pure (i,0)
 | y::ys,i=>(callM 7 child y y).bind fun z=>if z.2=0 then giveM child ys (i+1) else M.pure (i,z.2)
noncomputable def giveRest:List Item :=
 match Tryd.f89.body with
 | some (.seq _ (.seq (.seq _ (.block i (.loop c))) r))=>[.code c,.inLoop c,.inBlock i,.code r]
 | _=>[]
set_option maxRecDepth 100000 in
theorem give_loop (child:Int)(ps:Sl)(hps:ps.ok pv H)(hcap:ps.xs.length≤ps.cap)(fr:Frame)(cs:List Frame)(k:Nat × Int→Bool→Strat)
  (hn:∀ i e go',Good' C n (k (i,e) go') pv H free go' (G (fr.finish (.tuple #[(ps.take i).val,.int .i64 e])) cs)) :
  ∀ (ys:List Int) (i:Nat),(∀ j,ys[j]?=ps.xs[i+j]?)→i+ys.length=ps.xs.length→∀ (go:Bool) (j8 j9 j10 j11 j15 j16 j17 j18 j19 j20 j21 j22 j23 j24 j25 j26 j27 j28 j29 j30 j31 j32 j33 j34:Value),
  Good' C n ((giveM child ys i).then go k) pv H free go (G ((base 89).at ⟨#[pO C.o,.int .i64 child,ps.val,undef,undef,undef,.slice none 0 0,.int .i64 0,j8,j9,j10,j11,ps.val,.int .i64 ps.xs.length,.int .i64 i,j15,j16,j17,j18,j19,j20,j21,j22,j23,j24,j25,j26,j27,j28,j29,j30,j31,j32,j33,j34,undef],[]⟩ giveRest) (fr::cs)):=by
 intro ys
 induction ys with
 | nil =>
  intro i hy hl go j8 j9 j10 j11 j15 j16 j17 j18 j19 j20 j21 j22 j23 j24 j25 j26 j27 j28 j29 j30 j31 j32 j33 j34
  have hi:i=ps.xs.length:=by simpa using hl
  subst hi
  have h:=hn ps.xs.length 0 go
  rw [Sl.take_all] at h
  unfold giveM
  rw [M.pure_then]
  unfold giveRest
  simp only [Tryd.f89,pO] at *
  apply good_still
  ·intro l K un w Stop St hd d
   have hc:=St.clear
   refine Br.liv_seq (fun d=>?_) _
   refine Br.liv_region (fun d=>?_) _
   simp only [Br.rz,Br.ix,Nat.reduceAdd]
   refine Br.mo rfl rfl hc (fun d K' hK=>?_) _
   go_simp
   refine hK _ _ ⟨rfl,?_⟩
   clear hK K'
   refine Br.liv_region_end (fun d=>?_) _
   refine Br.liv_seq (fun d=>?_) _
   refine Br.mc rfl (fun u=>stepG_cond (t:=false) (by simp [Act.eval])) (fun d=>?_) _
   simp only [if_false,Bool.false_eq_true]
   refine Br.mc rfl (fun u=>stepG_exit rfl) (fun d=>?_) _
   refine Br.liv_seq (fun d=>?_) _
   refine Br.liv_region (fun d=>?_) _
   simp only [Br.rz,Br.ix,Nat.reduceAdd]
   refine Br.mo rfl rfl hc (fun d K' hK=>?_) _
   go_simp
   refine hK _ _ ⟨rfl,?_⟩
   clear hK K'
   refine Br.mo rfl rfl hc (fun d K' hK=>?_) _
   go_simp
   refine hK _ _ ⟨rfl,?_⟩
   clear hK K'
   refine Br.mo rfl rfl hc (fun d K' hK=>?_) _
   go_simp
   refine hK _ _ ⟨rfl,?_⟩
   clear hK K'
   refine Br.liv_region_end (fun d=>?_) _
   refine Br.liv_ret (fun d=>?_) _
   exact Br.liv_leave (v:=.tuple #[ps.val,.int .i64 0]) rfl rfl Tryd.func89 (resultsC_tmp2 (t:=6) (u:=7) rfl _) hd _
   done
  exact h
 | cons y ys ih =>
  intro i hy hl go j8 j9 j10 j11 j15 j16 j17 j18 j19 j20 j21 j22 j23 j24 j25 j26 j27 j28 j29 j30 j31 j32 j33 j34
  have hx:ps.xs[i]?=some y:=by have:=hy 0;simpa using this.symm
  have hlt:i<ps.xs.length:=by simp at hl;omega
  have hle:=hps.1
  obtain ⟨b,c,t,h1,h2,h3,h4⟩:=hps.2.resolve_left (fun h=>by rw [h] at hx;simp at hx)
  have hv:ps.val=.slice (some ⟨b,0,none⟩) ps.xs.length ps.cap:=by simp [Sl.val,h1]
  have hv':(ps.take i).val=.slice (some ⟨b,0,none⟩) i ps.cap:=by simp [Sl.val,Sl.take,h1];omega
  unfold giveM
  rw [M.bind_then]
  have ih':=fun go=>ih (i+1) (fun j=>(by have:=hy (j+1);rw [show i+1+j=i+(j+1) by omega,← this];simp)) (by simp at hl;omega) go
  unfold giveRest at *
  simp only [Tryd.f89,pO] at *
  have hlt':(i:Int)<(ps.xs.length:Int):=by omega
  apply good_still
  ·intro l K un w Stop St hd d
   have hc:=St.clear
   refine Br.liv_seq (fun d=>?_) _
   refine Br.liv_region (fun d=>?_) _
   simp only [Br.rz,Br.ix,Nat.reduceAdd]
   refine Br.mo rfl rfl hc (fun d K' hK=>?_) _
   go_simp
   refine hK _ _ ⟨rfl,?_⟩
   clear hK K'
   refine Br.liv_region_end (fun d=>?_) _
   refine Br.liv_seq (fun d=>?_) _
   refine Br.mc rfl (fun u=>stepG_cond (t:=true) (by simp [Act.eval,hlt])) (fun d=>?_) _
   simp only [if_true]
   refine Br.liv_skip (fun d=>?_) _
   refine Br.liv_seq (fun d=>?_) _
   refine Br.mc rfl (fun u=>stepG_block) (fun d=>?_) _
   refine Br.liv_seq (fun d=>?_) _
   refine Br.liv_region (fun d=>?_) _
   simp only [Br.rz,Br.ix,Nat.reduceAdd]
   try simp only [hv]
   refine Br.mo rfl rfl hc (fun d K' hK=>?_) _
   go_simp
   refine hK _ _ ⟨rfl,?_⟩
   clear hK K'
   refine Br.mo rfl rfl hc (fun d K' hK=>?_) _
   have hi0:(0:Int)≤i:=Int.natCast_nonneg i
   go_simp
   refine hK _ _ ⟨rfl,?_⟩
   clear hK K'
   refine Br.mo rfl rfl hc (fun d K' hK=>?_) _
   have ec:(w.at d).cell? ⟨b,i,none⟩=some (.int .i64 y):=St.cell h2 h3 (h4 i y hx)
   go_simp
   refine hK _ _ ⟨rfl,?_⟩
   clear hK K'
   refine Br.mo rfl rfl hc (fun d K' hK=>?_) _
   go_simp
   refine hK _ _ ⟨rfl,?_⟩
   clear hK K'
   refine Br.mo rfl rfl hc (fun d K' hK=>?_) _
   go_simp
   refine hK _ _ ⟨rfl,?_⟩
   clear hK K'
   refine Br.liv_region_end (fun d=>?_) _
   refine Br.liv_seq (fun d=>?_) _
   refine Br.liv_region (fun d=>?_) _
   simp only [Br.rz,Br.ix,Nat.reduceAdd]
   refine Br.mo rfl rfl hc (fun d K' hK=>?_) _
   go_simp
   refine hK _ _ ⟨rfl,?_⟩
   clear hK K'
   refine Br.mo rfl rfl hc (fun d K' hK=>?_) _
   go_simp
   refine hK _ _ ⟨rfl,?_⟩
   clear hK K'
   refine Br.mo rfl rfl hc (fun d K' hK=>?_) _
   go_simp
   refine hK _ _ ⟨rfl,?_⟩
   clear hK K'
   refine Br.mo rfl rfl hc (fun d K' hK=>?_) _
   go_simp
   refine hK _ _ ⟨rfl,?_⟩
   clear hK K'
   refine Br.mo rfl rfl hc (fun d K' hK=>?_) _
   go_simp
   refine hK _ _ ⟨rfl,?_⟩
   clear hK K'
   refine Br.mc rfl (fun u=>stepG_call rfl rfl (by decide) rfl Tryd.func84 rfl rfl (vs:=callArgs C.o 7 child y y) (by simp [Act.eval]) u) (fun d=>?_) _
   exact hd _
  refine good_call 7 child y y _ _ _ (fun x e go' hg=>?_)
  rw [Frame.finish_at]
  apply good_still
  ·intro l K un w Stop St hd d
   have hc:=St.clear
   go_simp
   refine Br.mo rfl rfl hc (fun d K' hK=>?_) _
   go_simp
   refine hK _ _ ⟨rfl,?_⟩
   clear hK K'
   refine Br.mo rfl rfl hc (fun d K' hK=>?_) _
   go_simp
   refine hK _ _ ⟨rfl,?_⟩
   clear hK K'
   refine Br.mo rfl rfl hc (fun d K' hK=>?_) _
   go_simp
   refine hK _ _ ⟨rfl,?_⟩
   clear hK K'
   refine Br.mo rfl rfl hc (fun d K' hK=>?_) _
   go_simp
   refine hK _ _ ⟨rfl,?_⟩
   clear hK K'
   refine Br.mo rfl rfl hc (fun d K' hK=>?_) _
   go_simp
   refine hK _ _ ⟨rfl,?_⟩
   clear hK K'
   refine Br.liv_region_end (fun d=>?_) _
   refine Br.liv_seq (fun d=>?_) _
   refine Br.liv_region (fun d=>?_) _
   simp only [Br.rz,Br.ix,Nat.reduceAdd]
   refine Br.mo rfl rfl hc (fun d K' hK=>?_) _
   go_simp
   refine hK _ _ ⟨rfl,?_⟩
   clear hK K'
   refine Br.mo rfl rfl hc (fun d K' hK=>?_) _
   go_simp
   refine hK _ _ ⟨rfl,?_⟩
   clear hK K'
   refine Br.liv_region_end (fun d=>?_) _
   exact hd _
  by_cases he:e=0
  ·subst he
   rw [if_pos rfl]
   apply good_still
   ·intro l K un w Stop St hd d
    have hc:=St.clear
    refine Br.mc rfl (fun u=>stepG_cond (t:=false) rfl) (fun d=>?_) _
    simp only [if_true,if_false,Bool.false_eq_true,↓reduceIte]
    refine Br.liv_skip (fun d=>?_) _
    refine Br.mc rfl (fun u=>stepG_inBlock) (fun d=>?_) _
    refine Br.liv_region (fun d=>?_) _
    simp only [Br.rz,Br.ix,Nat.reduceAdd]
    refine Br.mo rfl rfl hc (fun d K' hK=>?_) _
    go_simp
    refine hK _ _ ⟨rfl,?_⟩
    clear hK K'
    refine Br.mo rfl rfl hc (fun d K' hK=>?_) _
    go_simp
    refine hK _ _ ⟨rfl,?_⟩
    clear hK K'
    refine Br.liv_region_end (fun d=>?_) _
    refine Br.mc rfl (fun u=>stepG_inLoop) (fun d=>?_) _
    exact hd _
   rw [← hv,wrap_small (by omega) (by omega),show ((i:Int)+1)=((i+1:Nat):Int) from by simp]
   exact ih' go' _ _ _ _ _ _ _ _ _ _ _ _ _ _ _ _ _ _ _ _ _ _ _ _
  ·rw [if_neg he,M.pure_then]
   have hb:(e != 0)=true:=by simp [he]
   have hi0:(0:Int)≤i:=Int.natCast_nonneg i
   have hic:i≤ps.cap:=by omega
   have hic':(i:Int)≤(ps.cap:Int):=by omega
   have h:=hn i e go'
   rw [hv'] at h
   apply good_still
   ·intro l K un w Stop St hd d
    have hc:=St.clear
    refine Br.mc rfl (fun u=>stepG_cond (t:=true) (by simpa [Act.eval] using hb)) (fun d=>?_) _
    simp only [if_true]
    refine Br.liv_seq (fun d=>?_) _
    refine Br.liv_region (fun d=>?_) _
    simp only [Br.rz,Br.ix,Nat.reduceAdd]
    refine Br.mo rfl rfl hc (fun d K' hK=>?_) _
    go_simp
    refine hK _ _ ⟨rfl,?_⟩
    clear hK K'
    refine Br.mo rfl rfl hc (fun d K' hK=>?_) _
    go_simp
    refine hK _ _ ⟨rfl,?_⟩
    clear hK K'
    refine Br.mo rfl rfl hc (fun d K' hK=>?_) _
    go_simp
    refine hK _ _ ⟨rfl,?_⟩
    clear hK K'
    refine Br.mo rfl rfl hc (fun d K' hK=>?_) _
    go_simp
    refine hK _ _ ⟨rfl,?_⟩
    clear hK K'
    refine Br.mo rfl rfl hc (fun d K' hK=>?_) _
    go_simp
    refine hK _ _ ⟨rfl,?_⟩
    clear hK K'
    refine Br.mo rfl rfl hc (fun d K' hK=>?_) _
    go_simp
    refine hK _ _ ⟨rfl,?_⟩
    clear hK K'
    refine Br.liv_region_end (fun d=>?_) _
    refine Br.liv_ret (fun d=>?_) _
    exact Br.liv_leave (v:=.tuple #[.slice (some ⟨b,0,none⟩) i ps.cap,.int .i64 e]) rfl rfl Tryd.func89 (resultsC_tmp2 (t:=6) (u:=7) rfl _) hd _
    done
   exact h
noncomputable def giveBody:Code:=(Tryd.f89.body).getD .skip
theorem give_enter (o:OpD)(x:Int)(y:Value):Frame.enter Tryd.prog 89 #[pO o,.int .i64 x,y] .normal=(base 89).at ⟨#[pO o,.int .i64 x,y,undef,undef,undef,undef,undef,undef,undef,undef,undef,undef,undef,undef,undef,undef,undef,undef,undef,undef,undef,undef,undef,undef,undef,undef,undef,undef,undef,undef,undef,undef,undef,undef,undef],[]⟩ [.code giveBody]:=by
 rw [enter_at (c:=giveBody) _ Tryd.func89 rfl]
 refine congrArg (fun t=>(base 89).at ⟨t,[]⟩ [.code giveBody]) ?_
 kernel_rfl
set_option maxRecDepth 100000 in
theorem good_give (child:Int)(ps:Sl)(hps:ps.ok pv H)(hcap:ps.xs.length≤ps.cap)(fr:Frame)(cs:List Frame)(k:Nat × Int→Bool→Strat)
  (hn:∀ i e go',Good' C n (k (i,e) go') pv H free go' (G (fr.finish (.tuple #[(ps.take i).val,.int .i64 e])) cs)) :
  Good' C n ((giveM child ps.xs 0).then go k) pv H free go (G (Frame.enter Tryd.prog 89 #[pO C.o,.int .i64 child,ps.val] .normal) (fr::cs)):=by
 have key:=give_loop (C:=C) (n:=n) (free:=free) child ps hps hcap fr cs k hn ps.xs 0 (fun j=>by simp) (by simp) go
 unfold giveRest at key
 rw [give_enter]
 simp only [giveBody,Tryd.f89,Option.getD_some,pO] at *
 have hv:ps.val=.slice (ps.blk.map (⟨·,0,none⟩)) ps.xs.length ps.cap:=rfl
 apply good_still
 ·intro l K un w Stop St hd d
  have hc:=St.clear
  refine Br.liv_seq (fun d=>?_) _
  refine Br.liv_region (fun d=>?_) _
  simp only [Br.rz,Br.ix,Nat.reduceAdd]
  refine Br.mo rfl rfl hc (fun d K' hK=>?_) _
  go_simp
  refine hK _ _ ⟨rfl,?_⟩
  clear hK K'
  refine Br.mo rfl rfl hc (fun d K' hK=>?_) _
  go_simp
  refine hK _ _ ⟨rfl,?_⟩
  clear hK K'
  refine Br.liv_region_end (fun d=>?_) _
  refine Br.liv_seq (fun d=>?_) _
  refine Br.liv_seq (fun d=>?_) _
  refine Br.liv_region (fun d=>?_) _
  simp only [Br.rz,Br.ix,Nat.reduceAdd]
  refine Br.mo rfl rfl hc (fun d K' hK=>?_) _
  go_simp
  refine hK _ _ ⟨rfl,?_⟩
  clear hK K'
  refine Br.mo rfl rfl hc (fun d K' hK=>?_) _
  go_simp
  refine hK _ _ ⟨rfl,?_⟩
  clear hK K'
  refine Br.mo rfl rfl hc (fun d K' hK=>?_) _
  go_simp
  refine hK _ _ ⟨rfl,?_⟩
  clear hK K'
  refine Br.liv_region_end (fun d=>?_) _
  refine Br.mc rfl (fun u=>stepG_block) (fun d=>?_) _
  refine Br.mc rfl (fun u=>stepG_loop) (fun d=>?_) _
  exact hd _
 rw [← hv]
 exact key _ _ _ _ _ _ _ _ _ _ _ _ _ _ _ _ _ _ _ _ _ _ _ _
theorem Sl.ok_same {s : Sl}{pv : List Nat}{H H' : Heap}{fb : Option Nat}(h : s.ok pv H)(hf : s.blk ≠ fb ∨ s.blk = none)(hH : ∀ i ∈ pv, some i ≠ fb → H' i = H i) : s.ok pv H' := by
  refine ⟨h.1, h.2.imp id fun ⟨b, c, t, h1, h2, h3, h4⟩ => ⟨b, c, t, h1, h2, ?_, h4⟩⟩
  rw [hH b h2 (by rcases hf with hf | hf
                  · rw [← h1]; exact hf
                  · rw [h1] at hf; cases hf)]
  exact h3
def copyM (child:Int):List Int→Nat→List Int→M ((Nat × Int) × List Int)
 | [],i,xs=>M.pure ((i,0),xs)
 | y::ys,i,xs=>(withM2 6 xs.length child y 0 xs).bind fun z=>if z.1=0 then copyM child ys (i+1) z.2 else M.pure ((i,z.1),z.2)
noncomputable def copyRest:List Item :=
 match Tryd.f87.body with
 | some (.seq _ (.seq (.seq _ (.block i (.loop c))) r))=>[.code c,.inLoop c,.inBlock i,.code r]
 | _=>[]
set_option maxRecDepth 100000 in
theorem copy_loop (hspec:PopSpec)(hpl:∀ xs:List Int,xs≠[]→(popL xs).length=xs.length - 1)(fb:Option Nat)(hfb:∀ b,fb=some b→b∈pv)(H0:Heap)(child:Int)(ps:Sl)(hps0:ps.ok pv H0)(hpf:ps.blk≠fb∨ps.blk=none)(hcap:ps.xs.length≤ps.cap)(fr:Frame)(cs:List Frame)(k:(Nat × Int) × List Int→Bool→Strat)
  (hn:∀ i e xs' H' free' go',Fr fb pv H' free' xs'→(∀ i∈pv,some i≠fb→H' i=H0 i)→Good' C n (k ((i,e),xs') go') pv H' free' go' (G (fr.finish (.tuple #[(ps.take i).val,.int .i64 e])) cs)) :
  ∀ (ys:List Int) (i:Nat),(∀ j,ys[j]?=ps.xs[i+j]?)→i+ys.length=ps.xs.length→∀ (xs:List Int) (H:Heap) (free:Value),Fr fb pv H free xs→(∀ i∈pv,some i≠fb→H i=H0 i)→∀ (go:Bool) (j8 j9 j10 j14 j15 j16 j17 j18 j19 j20 j21 j22 j23 j24 j25 j26 j27 j28 j29:Value),
  Good' C n ((copyM child ys i xs).then go k) pv H free go (G ((base 87).at ⟨#[pO C.o,.int .i64 child,ps.val,undef,undef,undef,.slice none 0 0,.int .i64 0,j8,j9,j10,ps.val,.int .i64 ps.xs.length,.int .i64 i,j14,j15,j16,j17,j18,j19,j20,j21,j22,j23,j24,j25,j26,j27,j28,j29,undef],[]⟩ copyRest) (fr::cs)):=by
 intro ys
 induction ys with
 | nil =>
  intro i hy hl xs H free hF hH go j8 j9 j10 j14 j15 j16 j17 j18 j19 j20 j21 j22 j23 j24 j25 j26 j27 j28 j29
  have hi:i=ps.xs.length:=by simpa using hl
  subst hi
  have h:=hn ps.xs.length 0 xs H free go hF hH
  rw [Sl.take_all] at h
  unfold copyM
  rw [M.pure_then]
  unfold copyRest
  simp only [Tryd.f87,pO] at *
  apply good_still
  ·intro l K un w Stop St hd d
   have hc:=St.clear
   refine Br.liv_seq (fun d=>?_) _
   refine Br.liv_region (fun d=>?_) _
   simp only [Br.rz,Br.ix,Nat.reduceAdd]
   refine Br.mo rfl rfl hc (fun d K' hK=>?_) _
   go_simp
   refine hK _ _ ⟨rfl,?_⟩
   clear hK K'
   refine Br.liv_region_end (fun d=>?_) _
   refine Br.liv_seq (fun d=>?_) _
   refine Br.mc rfl (fun u=>stepG_cond (t:=false) (by simp [Act.eval])) (fun d=>?_) _
   simp only [if_false,Bool.false_eq_true]
   refine Br.mc rfl (fun u=>stepG_exit rfl) (fun d=>?_) _
   refine Br.liv_seq (fun d=>?_) _
   refine Br.liv_region (fun d=>?_) _
   simp only [Br.rz,Br.ix,Nat.reduceAdd]
   refine Br.mo rfl rfl hc (fun d K' hK=>?_) _
   go_simp
   refine hK _ _ ⟨rfl,?_⟩
   clear hK K'
   refine Br.mo rfl rfl hc (fun d K' hK=>?_) _
   go_simp
   refine hK _ _ ⟨rfl,?_⟩
   clear hK K'
   refine Br.mo rfl rfl hc (fun d K' hK=>?_) _
   go_simp
   refine hK _ _ ⟨rfl,?_⟩
   clear hK K'
   refine Br.liv_region_end (fun d=>?_) _
   refine Br.liv_ret (fun d=>?_) _
   exact Br.liv_leave (v:=.tuple #[ps.val,.int .i64 0]) rfl rfl Tryd.func87 (resultsC_tmp2 (t:=6) (u:=7) rfl _) hd _
   done
  exact h
 | cons y ys ih =>
  intro i hy hl xs H free hF hH go j8 j9 j10 j14 j15 j16 j17 j18 j19 j20 j21 j22 j23 j24 j25 j26 j27 j28 j29
  have hps:=Sl.ok_same hps0 hpf hH
  have hx:ps.xs[i]?=some y:=by have:=hy 0;simpa using this.symm
  have hlt:i<ps.xs.length:=by simp at hl;omega
  have hle:=hps.1
  obtain ⟨b,c,t,h1,h2,h3,h4⟩:=hps.2.resolve_left (fun h=>by rw [h] at hx;simp at hx)
  have hv:ps.val=.slice (some ⟨b,0,none⟩) ps.xs.length ps.cap:=by simp [Sl.val,h1]
  have hv':(ps.take i).val=.slice (some ⟨b,0,none⟩) i ps.cap:=by simp [Sl.val,Sl.take,h1];omega
  unfold copyM
  rw [M.bind_then]
  have ih':=ih (i+1) (fun j=>(by have:=hy (j+1);rw [show i+1+j=i+(j+1) by omega,← this];simp)) (by simp at hl;omega)
  unfold copyRest at *
  simp only [Tryd.f87,pO] at *
  have hlt':(i:Int)<(ps.xs.length:Int):=by omega
  apply good_still
  ·intro l K un w Stop St hd d
   have hc:=St.clear
   refine Br.liv_seq (fun d=>?_) _
   refine Br.liv_region (fun d=>?_) _
   simp only [Br.rz,Br.ix,Nat.reduceAdd]
   refine Br.mo rfl rfl hc (fun d K' hK=>?_) _
   go_simp
   refine hK _ _ ⟨rfl,?_⟩
   clear hK K'
   refine Br.liv_region_end (fun d=>?_) _
   refine Br.liv_seq (fun d=>?_) _
   refine Br.mc rfl (fun u=>stepG_cond (t:=true) (by simp [Act.eval,hlt])) (fun d=>?_) _
   simp only [if_true]
   refine Br.liv_skip (fun d=>?_) _
   refine Br.liv_seq (fun d=>?_) _
   refine Br.mc rfl (fun u=>stepG_block) (fun d=>?_) _
   refine Br.liv_seq (fun d=>?_) _
   refine Br.liv_region (fun d=>?_) _
   simp only [Br.rz,Br.ix,Nat.reduceAdd]
   try simp only [hv]
   refine Br.mo rfl rfl hc (fun d K' hK=>?_) _
   go_simp
   refine hK _ _ ⟨rfl,?_⟩
   clear hK K'
   refine Br.mo rfl rfl hc (fun d K' hK=>?_) _
   have hi0:(0:Int)≤i:=Int.natCast_nonneg i
   go_simp
   refine hK _ _ ⟨rfl,?_⟩
   clear hK K'
   refine Br.mo rfl rfl hc (fun d K' hK=>?_) _
   have ec:(w.at d).cell? ⟨b,i,none⟩=some (.int .i64 y):=St.cell h2 h3 (h4 i y hx)
   go_simp
   refine hK _ _ ⟨rfl,?_⟩
   clear hK K'
   refine Br.mo rfl rfl hc (fun d K' hK=>?_) _
   go_simp
   refine hK _ _ ⟨rfl,?_⟩
   clear hK K'
   refine Br.mo rfl rfl hc (fun d K' hK=>?_) _
   go_simp
   refine hK _ _ ⟨rfl,?_⟩
   clear hK K'
   refine Br.liv_region_end (fun d=>?_) _
   refine Br.liv_seq (fun d=>?_) _
   refine Br.liv_region (fun d=>?_) _
   simp only [Br.rz,Br.ix,Nat.reduceAdd]
   refine Br.mo rfl rfl hc (fun d K' hK=>?_) _
   go_simp
   refine hK _ _ ⟨rfl,?_⟩
   clear hK K'
   refine Br.mo rfl rfl hc (fun d K' hK=>?_) _
   go_simp
   refine hK _ _ ⟨rfl,?_⟩
   clear hK K'
   refine Br.mo rfl rfl hc (fun d K' hK=>?_) _
   go_simp
   refine hK _ _ ⟨rfl,?_⟩
   clear hK K'
   refine Br.mo rfl rfl hc (fun d K' hK=>?_) _
   go_simp
   refine hK _ _ ⟨rfl,?_⟩
   clear hK K'
   refine Br.mc rfl (fun u=>stepG_call rfl rfl (by decide) rfl Tryd.func81 rfl rfl (vs:=#[pO C.o,.int .i64 6,.agg #[.int .i64 child,.int .i64 y,.int .i64 0],.int .i64 2]) (by simp [Act.eval]) u) (fun d=>?_) _
   exact hd _
  refine good_with2 hspec hpl hF hfb 6 child y 0 _ _ _ (fun e xs' H' free' go' hF' hH'=>?_)
  have hHH:∀ i∈pv,some i≠fb→H' i=H0 i:=fun i hi hf=>(hH' i hi hf).trans (hH i hi hf)
  rw [Frame.finish_at]
  apply good_still
  ·intro l K un w Stop St hd d
   have hc:=St.clear
   go_simp
   refine Br.mo rfl rfl hc (fun d K' hK=>?_) _
   go_simp
   refine hK _ _ ⟨rfl,?_⟩
   clear hK K'
   refine Br.liv_region_end (fun d=>?_) _
   refine Br.liv_seq (fun d=>?_) _
   refine Br.liv_region (fun d=>?_) _
   simp only [Br.rz,Br.ix,Nat.reduceAdd]
   refine Br.mo rfl rfl hc (fun d K' hK=>?_) _
   go_simp
   refine hK _ _ ⟨rfl,?_⟩
   clear hK K'
   refine Br.mo rfl rfl hc (fun d K' hK=>?_) _
   go_simp
   refine hK _ _ ⟨rfl,?_⟩
   clear hK K'
   refine Br.liv_region_end (fun d=>?_) _
   exact hd _
  by_cases he:e=0
  ·subst he
   rw [if_pos rfl]
   apply good_still
   ·intro l K un w Stop St hd d
    have hc:=St.clear
    refine Br.mc rfl (fun u=>stepG_cond (t:=false) rfl) (fun d=>?_) _
    simp only [if_true,if_false,Bool.false_eq_true,↓reduceIte]
    refine Br.liv_skip (fun d=>?_) _
    refine Br.mc rfl (fun u=>stepG_inBlock) (fun d=>?_) _
    refine Br.liv_region (fun d=>?_) _
    simp only [Br.rz,Br.ix,Nat.reduceAdd]
    refine Br.mo rfl rfl hc (fun d K' hK=>?_) _
    go_simp
    refine hK _ _ ⟨rfl,?_⟩
    clear hK K'
    refine Br.mo rfl rfl hc (fun d K' hK=>?_) _
    go_simp
    refine hK _ _ ⟨rfl,?_⟩
    clear hK K'
    refine Br.liv_region_end (fun d=>?_) _
    refine Br.mc rfl (fun u=>stepG_inLoop) (fun d=>?_) _
    exact hd _
   rw [← hv,wrap_small (by omega) (by omega),show ((i:Int)+1)=((i+1:Nat):Int) from by simp]
   exact ih' xs' H' free' hF' hHH go' _ _ _ _ _ _ _ _ _ _ _ _ _ _ _ _ _ _ _
  ·rw [if_neg he,M.pure_then]
   have hb:(e != 0)=true:=by simp [he]
   have hi0:(0:Int)≤i:=Int.natCast_nonneg i
   have hic:i≤ps.cap:=by omega
   have hic':(i:Int)≤(ps.cap:Int):=by omega
   have h:=hn i e xs' H' free' go' hF' hHH
   rw [hv'] at h
   apply good_still
   ·intro l K un w Stop St hd d
    have hc:=St.clear
    refine Br.mc rfl (fun u=>stepG_cond (t:=true) (by simpa [Act.eval] using hb)) (fun d=>?_) _
    simp only [if_true]
    refine Br.liv_seq (fun d=>?_) _
    refine Br.liv_region (fun d=>?_) _
    simp only [Br.rz,Br.ix,Nat.reduceAdd]
    refine Br.mo rfl rfl hc (fun d K' hK=>?_) _
    go_simp
    refine hK _ _ ⟨rfl,?_⟩
    clear hK K'
    refine Br.mo rfl rfl hc (fun d K' hK=>?_) _
    go_simp
    refine hK _ _ ⟨rfl,?_⟩
    clear hK K'
    refine Br.mo rfl rfl hc (fun d K' hK=>?_) _
    go_simp
    refine hK _ _ ⟨rfl,?_⟩
    clear hK K'
    refine Br.mo rfl rfl hc (fun d K' hK=>?_) _
    go_simp
    refine hK _ _ ⟨rfl,?_⟩
    clear hK K'
    refine Br.mo rfl rfl hc (fun d K' hK=>?_) _
    go_simp
    refine hK _ _ ⟨rfl,?_⟩
    clear hK K'
    refine Br.mo rfl rfl hc (fun d K' hK=>?_) _
    go_simp
    refine hK _ _ ⟨rfl,?_⟩
    clear hK K'
    refine Br.liv_region_end (fun d=>?_) _
    refine Br.liv_ret (fun d=>?_) _
    exact Br.liv_leave (v:=.tuple #[.slice (some ⟨b,0,none⟩) i ps.cap,.int .i64 e]) rfl rfl Tryd.func87 (resultsC_tmp2 (t:=6) (u:=7) rfl _) hd _
    done
   exact h
noncomputable def copyBody:Code:=(Tryd.f87.body).getD .skip
theorem copy_enter (o:OpD)(x:Int)(y:Value):Frame.enter Tryd.prog 87 #[pO o,.int .i64 x,y] .normal=(base 87).at ⟨#[pO o,.int .i64 x,y,undef,undef,undef,undef,undef,undef,undef,undef,undef,undef,undef,undef,undef,undef,undef,undef,undef,undef,undef,undef,undef,undef,undef,undef,undef,undef,undef,undef],[]⟩ [.code copyBody]:=by
 rw [enter_at (c:=copyBody) _ Tryd.func87 rfl]
 refine congrArg (fun t=>(base 87).at ⟨t,[]⟩ [.code copyBody]) ?_
 kernel_rfl
set_option maxRecDepth 100000 in
theorem good_copy (hspec:PopSpec)(hpl:∀ xs:List Int,xs≠[]→(popL xs).length=xs.length - 1){fb:Option Nat}(hfb:∀ b,fb=some b→b∈pv)(child:Int)(ps:Sl)(hps:ps.ok pv H)(hpf:ps.blk≠fb∨ps.blk=none)(hcap:ps.xs.length≤ps.cap){xs:List Int}(hF:Fr fb pv H free xs)(fr:Frame)(cs:List Frame)(k:(Nat × Int) × List Int→Bool→Strat)
  (hn:∀ i e xs' H' free' go',Fr fb pv H' free' xs'→(∀ i∈pv,some i≠fb→H' i=H i)→Good' C n (k ((i,e),xs') go') pv H' free' go' (G (fr.finish (.tuple #[(ps.take i).val,.int .i64 e])) cs)) :
  Good' C n ((copyM child ps.xs 0 xs).then go k) pv H free go (G (Frame.enter Tryd.prog 87 #[pO C.o,.int .i64 child,ps.val] .normal) (fr::cs)):=by
 have key:=copy_loop (C:=C) (n:=n) hspec hpl fb hfb H child ps hps hpf hcap fr cs k hn ps.xs 0 (fun j=>by simp) (by simp) xs H free hF (fun _ _ _=>rfl) go
 unfold copyRest at key
 rw [copy_enter]
 simp only [copyBody,Tryd.f87,Option.getD_some,pO] at *
 have hv:ps.val=.slice (ps.blk.map (⟨·,0,none⟩)) ps.xs.length ps.cap:=rfl
 apply good_still
 ·intro l K un w Stop St hd d
  have hc:=St.clear
  refine Br.liv_seq (fun d=>?_) _
  refine Br.liv_region (fun d=>?_) _
  simp only [Br.rz,Br.ix,Nat.reduceAdd]
  refine Br.mo rfl rfl hc (fun d K' hK=>?_) _
  go_simp
  refine hK _ _ ⟨rfl,?_⟩
  clear hK K'
  refine Br.mo rfl rfl hc (fun d K' hK=>?_) _
  go_simp
  refine hK _ _ ⟨rfl,?_⟩
  clear hK K'
  refine Br.liv_region_end (fun d=>?_) _
  refine Br.liv_seq (fun d=>?_) _
  refine Br.liv_seq (fun d=>?_) _
  refine Br.liv_region (fun d=>?_) _
  simp only [Br.rz,Br.ix,Nat.reduceAdd]
  refine Br.mo rfl rfl hc (fun d K' hK=>?_) _
  go_simp
  refine hK _ _ ⟨rfl,?_⟩
  clear hK K'
  refine Br.mo rfl rfl hc (fun d K' hK=>?_) _
  go_simp
  refine hK _ _ ⟨rfl,?_⟩
  clear hK K'
  refine Br.mo rfl rfl hc (fun d K' hK=>?_) _
  go_simp
  refine hK _ _ ⟨rfl,?_⟩
  clear hK K'
  refine Br.liv_region_end (fun d=>?_) _
  refine Br.mc rfl (fun u=>stepG_block) (fun d=>?_) _
  refine Br.mc rfl (fun u=>stepG_loop) (fun d=>?_) _
  exact hd _
 rw [← hv]
 exact key _ _ _ _ _ _ _ _ _ _ _ _ _ _ _ _ _ _ _
end
end Go.Proofs.YtcgabodkegcpgaaDoor
