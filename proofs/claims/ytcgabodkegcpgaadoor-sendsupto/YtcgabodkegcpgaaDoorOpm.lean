/- takeApart. -/
import Derived.Test.YtcgabodkegcpgaaDoorOpi
import Derived.Test.YtcgabodkegcpgaaDoorOpr
import Derived.Deep.QuietTactic
import Derived.BigQuiet
set_option linter.unusedVariables false
set_option linter.unusedSimpArgs false
set_option maxHeartbeats 20000000
set_option maxRecDepth 100000
namespace Go.Proofs.YtcgabodkegcpgaaDoor
open Go.Conc Go.RowKit
open Br (OpD KO SO SP sfO Lk Fit Must DL Liv Clear)
structure Sl where
 blk:Option Nat
 cap:Nat
 xs:List Int
def Sl.val (s:Sl):Value:=.slice (s.blk.map (⟨·,0,none⟩)) s.xs.length s.cap
def Sl.ok (s:Sl)(pv:List Nat)(H:Heap):Prop:=s.xs.length≤min 40 s.cap∧(s.xs=[]∨∃ (b:Nat) (c:Array Value) (t:TypeId),s.blk=some b∧b∈pv∧H b=.cells c t (0,0)∧∀ (i:Nat) (x:Int),s.xs[i]?=some x→c[i]?=some (.int .i64 x))
theorem Sl.at_ {C:Ctx}{pv:List Nat}{H:Heap}{free:Value}{un go:Bool}{l:List OpD}{K:Ker}{w:World}{d:Nat}{s:Sl}(h:s.ok pv H)(St:Sta C l K pv H free un go w){i:Nat}{x:Int}(hx:s.xs[i]?=some x) :
  ∃ b,s.val=.slice (some ⟨b,0,none⟩) s.xs.length s.cap∧(w.at d).cell? ⟨b,i,none⟩=some (.int .i64 x):=by
 rcases h.2 with h|⟨b,c,t,h1,h2,h3,h4⟩
 ·rw [h] at hx;simp at hx
 ·exact ⟨b,by simp [Sl.val,h1],St.cell h2 h3 (h4 i x hx)⟩
theorem wrap_small {x:Int}(h0:0≤x)(h1:x<1000):IntKind.i64.wrap x=x:=by
 simp [IntKind.wrap,IntKind.bits,IntKind.signed]
 omega
section
variable {C:Ctx} {n:Nat} {pv:List Nat} {H:Heap} {free:Value} {go:Bool}
def eachM (num child:Int):List Int→M Unit
 | []=>M.pure ()
 | p::ps=>(callM num child p 0).bind fun _=>eachM num child ps
def apartM (child:Int)(pages files:List Int):M (Int × Int):=(eachM 10 child pages).bind fun _=>(eachM 11 child files).bind fun _=>callM 12 child 0 0
noncomputable def apartRest:List Item :=
 match Tryd.f92.body with
 | some (.seq _ (.seq (.seq _ (.block i (.loop c))) r))=>[.code c,.inLoop c,.inBlock i,.code r]
 | _=>[]
noncomputable def apartTail:List Item :=
 match Tryd.f92.body with
 | some (.seq _ (.seq (.seq _ (.block i (.loop c))) r))=>[.code r]
 | _=>[]
noncomputable def apartRest2:List Item :=
 match Tryd.f92.body with
 | some (.seq _ (.seq _ (.seq (.seq _ (.block i (.loop c))) r)))=>[.code c,.inLoop c,.inBlock i,.code r]
 | _=>[]
noncomputable def apartTail2:List Item :=
 match Tryd.f92.body with
 | some (.seq _ (.seq _ (.seq (.seq _ (.block i (.loop c))) r)))=>[.code r]
 | _=>[]
theorem apart_loop1 (child:Int)(ps fs:Sl)(hps:ps.ok pv H)(fr:Frame)(cs:List Frame)(k:Bool→Strat)
  (hn:∀ (go':Bool) (j16 j11 j17 j18 j19 j20 j21 j22 j23 j24 j25:Value),Good' C n (k go') pv H free go' (G ((base 92).at ⟨#[pO C.o,.int .i64 child,ps.val,fs.val,undef,undef,undef,undef,.int .i64 0,.int .i64 0,undef,j11,undef,undef,ps.val,.int .i64 ps.xs.length,j16,j17,j18,j19,j20,j21,j22,j23,j24,j25,undef,undef,undef,undef,undef,undef,undef,undef,undef,undef,undef,undef,undef,undef,undef,undef,undef,undef],[]⟩ apartTail) (fr::cs))) :
  ∀ (ys:List Int) (i:Nat),(∀ j,ys[j]?=ps.xs[i+j]?)→i+ys.length=ps.xs.length→∀ (go:Bool) (j11 j17 j18 j19 j20 j21 j22 j23 j24 j25:Value),
  Good' C n ((eachM 10 child ys).then go (fun _=>k)) pv H free go (G ((base 92).at ⟨#[pO C.o,.int .i64 child,ps.val,fs.val,undef,undef,undef,undef,.int .i64 0,.int .i64 0,undef,j11,undef,undef,ps.val,.int .i64 ps.xs.length,.int .i64 i,j17,j18,j19,j20,j21,j22,j23,j24,j25,undef,undef,undef,undef,undef,undef,undef,undef,undef,undef,undef,undef,undef,undef,undef,undef,undef,undef],[]⟩ apartRest) (fr::cs)):=by
 intro ys
 induction ys with
 | nil =>
  intro i hy hl go j11 j17 j18 j19 j20 j21 j22 j23 j24 j25
  have hi:i=ps.xs.length:=by simpa using hl
  subst hi
  have h:=hn go (.int .i64 ps.xs.length) j11 (.bool false) j18 j19 j20 j21 j22 j23 j24 j25
  unfold eachM
  rw [M.pure_then]
  unfold apartRest
  unfold apartTail at h
  simp only [Tryd.f92,pO] at *
  apply good_still
  ·intro l K un w Stop St hd d
   have hc:=St.clear
   refine Br.liv_seq (fun d=>?_) _
   refine Br.liv_region (fun d=>?_) _
   simp only [Br.rz,Br.ix,Nat.reduceAdd]
   refine Br.mo rfl rfl hc (fun d K' hK=>?_) _
   go_simp
   refine hK _ _ ⟨rfl,?_⟩
   clear hK K'
   refine Br.liv_region_end (fun d=>?_) _
   refine Br.liv_seq (fun d=>?_) _
   refine Br.mc rfl (fun u=>stepG_cond (t:=false) (by simp [Act.eval])) (fun d=>?_) _
   simp only [if_false,Bool.false_eq_true]
   refine Br.mc rfl (fun u=>stepG_exit rfl) (fun d=>?_) _
   exact hd _
  exact h
 | cons y ys ih =>
  intro i hy hl go j11 j17 j18 j19 j20 j21 j22 j23 j24 j25
  have hx:ps.xs[i]?=some y:=by have:=hy 0;simpa using this.symm
  have hlt:i<ps.xs.length:=by simp at hl;omega
  have hle:=hps.1
  obtain ⟨b,c,t,h1,h2,h3,h4⟩:=hps.2.resolve_left (fun h=>by rw [h] at hx;simp at hx)
  have hv:ps.val=.slice (some ⟨b,0,none⟩) ps.xs.length ps.cap:=by simp [Sl.val,h1]
  unfold eachM
  rw [M.bind_then]
  have ih':=fun go=>ih (i+1) (fun j=>(by have:=hy (j+1);rw [show i+1+j=i+(j+1) by omega,← this];simp)) (by simp at hl;omega) go
  unfold apartRest at *
  simp only [Tryd.f92,pO] at *
  have hlt':(i:Int)<(ps.xs.length:Int):=by omega
  apply good_still
  ·intro l K un w Stop St hd d
   have hc:=St.clear
   refine Br.liv_seq (fun d=>?_) _
   refine Br.liv_region (fun d=>?_) _
   simp only [Br.rz,Br.ix,Nat.reduceAdd]
   refine Br.mo rfl rfl hc (fun d K' hK=>?_) _
   go_simp
   refine hK _ _ ⟨rfl,?_⟩
   clear hK K'
   refine Br.liv_region_end (fun d=>?_) _
   refine Br.liv_seq (fun d=>?_) _
   refine Br.mc rfl (fun u=>stepG_cond (t:=true) (by simp [Act.eval,hlt])) (fun d=>?_) _
   simp only [if_true]
   refine Br.liv_skip (fun d=>?_) _
   refine Br.liv_seq (fun d=>?_) _
   refine Br.mc rfl (fun u=>stepG_block) (fun d=>?_) _
   refine Br.liv_seq (fun d=>?_) _
   refine Br.liv_region (fun d=>?_) _
   simp only [Br.rz,Br.ix,Nat.reduceAdd]
   try simp only [hv]
   refine Br.mo rfl rfl hc (fun d K' hK=>?_) _
   have hi0:(0:Int)≤i:=Int.natCast_nonneg i
   go_simp
   refine hK _ _ ⟨rfl,?_⟩
   clear hK K'
   refine Br.mo rfl rfl hc (fun d K' hK=>?_) _
   have ec:(w.at d).cell? ⟨b,i,none⟩=some (.int .i64 y):=St.cell h2 h3 (h4 i y hx)
   go_simp
   refine hK _ _ ⟨rfl,?_⟩
   clear hK K'
   refine Br.mo rfl rfl hc (fun d K' hK=>?_) _
   go_simp
   refine hK _ _ ⟨rfl,?_⟩
   clear hK K'
   refine Br.liv_region_end (fun d=>?_) _
   refine Br.liv_region (fun d=>?_) _
   simp only [Br.rz,Br.ix,Nat.reduceAdd]
   refine Br.mo rfl rfl hc (fun d K' hK=>?_) _
   go_simp
   refine hK _ _ ⟨rfl,?_⟩
   clear hK K'
   refine Br.mo rfl rfl hc (fun d K' hK=>?_) _
   go_simp
   refine hK _ _ ⟨rfl,?_⟩
   clear hK K'
   refine Br.mo rfl rfl hc (fun d K' hK=>?_) _
   go_simp
   refine hK _ _ ⟨rfl,?_⟩
   clear hK K'
   refine Br.mo rfl rfl hc (fun d K' hK=>?_) _
   go_simp
   refine hK _ _ ⟨rfl,?_⟩
   clear hK K'
   refine Br.mc rfl (fun u=>stepG_call rfl rfl (by decide) rfl Tryd.func84 rfl rfl (vs:=callArgs C.o 10 child y 0) (by simp [Act.eval]) u) (fun d=>?_) _
   exact hd _
  refine good_call 10 child y 0 _ _ _ (fun x e go' hg=>?_)
  rw [Frame.finish_at]
  apply good_still
  ·intro l K un w Stop St hd d
   have hc:=St.clear
   go_simp
   refine Br.liv_region_end (fun d=>?_) _
   refine Br.mc rfl (fun u=>stepG_inBlock) (fun d=>?_) _
   refine Br.liv_region (fun d=>?_) _
   simp only [Br.rz,Br.ix,Nat.reduceAdd]
   refine Br.mo rfl rfl hc (fun d K' hK=>?_) _
   go_simp
   refine hK _ _ ⟨rfl,?_⟩
   clear hK K'
   refine Br.mo rfl rfl hc (fun d K' hK=>?_) _
   go_simp
   refine hK _ _ ⟨rfl,?_⟩
   clear hK K'
   refine Br.liv_region_end (fun d=>?_) _
   refine Br.mc rfl (fun u=>stepG_inLoop) (fun d=>?_) _
   exact hd _
  rw [← hv,wrap_small (by omega) (by omega),show ((i:Int)+1)=((i+1:Nat):Int) from by simp]
  exact ih' go' _ _ _ _ _ _ _ _ _ _
theorem apart_loop2 (child:Int)(ps fs:Sl)(hps:fs.ok pv H)(fr:Frame)(cs:List Frame)(k:Bool→Strat)
  (hn:∀ (go':Bool) (j16 j11 j17 j18 j19 j20 j21 j22 j23 j24 j25 j28 j13 j29 j30 j31 j32 j33 j34 j35 j36 j37:Value),Good' C n (k go') pv H free go' (G ((base 92).at ⟨#[pO C.o,.int .i64 child,ps.val,fs.val,undef,undef,undef,undef,.int .i64 0,.int .i64 0,undef,j11,undef,j13,ps.val,.int .i64 ps.xs.length,j16,j17,j18,j19,j20,j21,j22,j23,j24,j25,fs.val,.int .i64 fs.xs.length,j28,j29,j30,j31,j32,j33,j34,j35,j36,j37,undef,undef,undef,undef,undef,undef],[]⟩ apartTail2) (fr::cs))) :
  ∀ (ys:List Int) (i:Nat),(∀ j,ys[j]?=fs.xs[i+j]?)→i+ys.length=fs.xs.length→∀ (go:Bool) (j16 j11 j17 j18 j19 j20 j21 j22 j23 j24 j25 j13 j29 j30 j31 j32 j33 j34 j35 j36 j37:Value),
  Good' C n ((eachM 11 child ys).then go (fun _=>k)) pv H free go (G ((base 92).at ⟨#[pO C.o,.int .i64 child,ps.val,fs.val,undef,undef,undef,undef,.int .i64 0,.int .i64 0,undef,j11,undef,j13,ps.val,.int .i64 ps.xs.length,j16,j17,j18,j19,j20,j21,j22,j23,j24,j25,fs.val,.int .i64 fs.xs.length,.int .i64 i,j29,j30,j31,j32,j33,j34,j35,j36,j37,undef,undef,undef,undef,undef,undef],[]⟩ apartRest2) (fr::cs)):=by
 intro ys
 induction ys with
 | nil =>
  intro i hy hl go j16 j11 j17 j18 j19 j20 j21 j22 j23 j24 j25 j13 j29 j30 j31 j32 j33 j34 j35 j36 j37
  have hi:i=fs.xs.length:=by simpa using hl
  subst hi
  have h:=hn go j16 j11 j17 j18 j19 j20 j21 j22 j23 j24 j25 (.int .i64 fs.xs.length) j13 (.bool false) j30 j31 j32 j33 j34 j35 j36 j37
  unfold eachM
  rw [M.pure_then]
  unfold apartRest2
  unfold apartTail2 at h
  simp only [Tryd.f92,pO] at *
  apply good_still
  ·intro l K un w Stop St hd d
   have hc:=St.clear
   refine Br.liv_seq (fun d=>?_) _
   refine Br.liv_region (fun d=>?_) _
   simp only [Br.rz,Br.ix,Nat.reduceAdd]
   refine Br.mo rfl rfl hc (fun d K' hK=>?_) _
   go_simp
   refine hK _ _ ⟨rfl,?_⟩
   clear hK K'
   refine Br.liv_region_end (fun d=>?_) _
   refine Br.liv_seq (fun d=>?_) _
   refine Br.mc rfl (fun u=>stepG_cond (t:=false) (by simp [Act.eval])) (fun d=>?_) _
   simp only [if_false,Bool.false_eq_true]
   refine Br.mc rfl (fun u=>stepG_exit rfl) (fun d=>?_) _
   exact hd _
  exact h
 | cons y ys ih =>
  intro i hy hl go j16 j11 j17 j18 j19 j20 j21 j22 j23 j24 j25 j13 j29 j30 j31 j32 j33 j34 j35 j36 j37
  have hx:fs.xs[i]?=some y:=by have:=hy 0;simpa using this.symm
  have hlt:i<fs.xs.length:=by simp at hl;omega
  have hle:=hps.1
  obtain ⟨b,c,t,h1,h2,h3,h4⟩:=hps.2.resolve_left (fun h=>by rw [h] at hx;simp at hx)
  have hv:fs.val=.slice (some ⟨b,0,none⟩) fs.xs.length fs.cap:=by simp [Sl.val,h1]
  unfold eachM
  rw [M.bind_then]
  have ih':=fun go=>ih (i+1) (fun j=>(by have:=hy (j+1);rw [show i+1+j=i+(j+1) by omega,← this];simp)) (by simp at hl;omega) go
  unfold apartRest2 at *
  simp only [Tryd.f92,pO] at *
  have hlt':(i:Int)<(fs.xs.length:Int):=by omega
  apply good_still
  ·intro l K un w Stop St hd d
   have hc:=St.clear
   refine Br.liv_seq (fun d=>?_) _
   refine Br.liv_region (fun d=>?_) _
   simp only [Br.rz,Br.ix,Nat.reduceAdd]
   refine Br.mo rfl rfl hc (fun d K' hK=>?_) _
   go_simp
   refine hK _ _ ⟨rfl,?_⟩
   clear hK K'
   refine Br.liv_region_end (fun d=>?_) _
   refine Br.liv_seq (fun d=>?_) _
   refine Br.mc rfl (fun u=>stepG_cond (t:=true) (by simp [Act.eval,hlt])) (fun d=>?_) _
   simp only [if_true]
   refine Br.liv_skip (fun d=>?_) _
   refine Br.liv_seq (fun d=>?_) _
   refine Br.mc rfl (fun u=>stepG_block) (fun d=>?_) _
   refine Br.liv_seq (fun d=>?_) _
   refine Br.liv_region (fun d=>?_) _
   simp only [Br.rz,Br.ix,Nat.reduceAdd]
   try simp only [hv]
   refine Br.mo rfl rfl hc (fun d K' hK=>?_) _
   have hi0:(0:Int)≤i:=Int.natCast_nonneg i
   go_simp
   refine hK _ _ ⟨rfl,?_⟩
   clear hK K'
   refine Br.mo rfl rfl hc (fun d K' hK=>?_) _
   have ec:(w.at d).cell? ⟨b,i,none⟩=some (.int .i64 y):=St.cell h2 h3 (h4 i y hx)
   go_simp
   refine hK _ _ ⟨rfl,?_⟩
   clear hK K'
   refine Br.mo rfl rfl hc (fun d K' hK=>?_) _
   go_simp
   refine hK _ _ ⟨rfl,?_⟩
   clear hK K'
   refine Br.liv_region_end (fun d=>?_) _
   refine Br.liv_region (fun d=>?_) _
   simp only [Br.rz,Br.ix,Nat.reduceAdd]
   refine Br.mo rfl rfl hc (fun d K' hK=>?_) _
   go_simp
   refine hK _ _ ⟨rfl,?_⟩
   clear hK K'
   refine Br.mo rfl rfl hc (fun d K' hK=>?_) _
   go_simp
   refine hK _ _ ⟨rfl,?_⟩
   clear hK K'
   refine Br.mo rfl rfl hc (fun d K' hK=>?_) _
   go_simp
   refine hK _ _ ⟨rfl,?_⟩
   clear hK K'
   refine Br.mo rfl rfl hc (fun d K' hK=>?_) _
   go_simp
   refine hK _ _ ⟨rfl,?_⟩
   clear hK K'
   refine Br.mc rfl (fun u=>stepG_call rfl rfl (by decide) rfl Tryd.func84 rfl rfl (vs:=callArgs C.o 11 child y 0) (by simp [Act.eval]) u) (fun d=>?_) _
   exact hd _
  refine good_call 11 child y 0 _ _ _ (fun x e go' hg=>?_)
  rw [Frame.finish_at]
  apply good_still
  ·intro l K un w Stop St hd d
   have hc:=St.clear
   go_simp
   refine Br.liv_region_end (fun d=>?_) _
   refine Br.mc rfl (fun u=>stepG_inBlock) (fun d=>?_) _
   refine Br.liv_region (fun d=>?_) _
   simp only [Br.rz,Br.ix,Nat.reduceAdd]
   refine Br.mo rfl rfl hc (fun d K' hK=>?_) _
   go_simp
   refine hK _ _ ⟨rfl,?_⟩
   clear hK K'
   refine Br.mo rfl rfl hc (fun d K' hK=>?_) _
   go_simp
   refine hK _ _ ⟨rfl,?_⟩
   clear hK K'
   refine Br.liv_region_end (fun d=>?_) _
   refine Br.mc rfl (fun u=>stepG_inLoop) (fun d=>?_) _
   exact hd _
  rw [← hv,wrap_small (by omega) (by omega),show ((i:Int)+1)=((i+1:Nat):Int) from by simp]
  exact ih' go' _ _ _ _ _ _ _ _ _ _ _ _ _ _ _ _ _ _ _ _ _
noncomputable def apartBody:Code:=(Tryd.f92.body).getD .skip
theorem apart_enter (o:OpD)(x:Int)(y z:Value):Frame.enter Tryd.prog 92 #[pO o,.int .i64 x,y,z] .normal=(base 92).at ⟨#[pO o,.int .i64 x,y,z,undef,undef,undef,undef,undef,undef,undef,undef,undef,undef,undef,undef,undef,undef,undef,undef,undef,undef,undef,undef,undef,undef,undef,undef,undef,undef,undef,undef,undef,undef,undef,undef,undef,undef,undef,undef,undef,undef,undef,undef],[]⟩ [.code apartBody]:=by
 rw [enter_at (c:=apartBody) _ Tryd.func92 rfl]
 refine congrArg (fun t=>(base 92).at ⟨t,[]⟩ [.code apartBody]) ?_
 kernel_rfl
theorem good_apart (child:Int)(ps fs:Sl)(hps:ps.ok pv H)(hfs:fs.ok pv H)(fr:Frame)(cs:List Frame)(k:Int × Int→Bool→Strat)(hn:∀ x e go',Good' C n (k (x,e) go') pv H free go' (G (fr.finish (.tuple #[.int .i64 x,.int .i64 e])) cs)) :
  Good' C n ((apartM child ps.xs fs.xs).then go k) pv H free go (G (Frame.enter Tryd.prog 92 #[pO C.o,.int .i64 child,ps.val,fs.val] .normal) (fr::cs)):=by
 unfold apartM
 rw [M.bind_then,apart_enter]
 have key:=apart_loop1 (C:=C) (n:=n) (free:=free) child ps fs hps fr cs (fun go'=>((eachM 11 child fs.xs).bind fun _=>callM 12 child 0 0).then go' k) (fun go' j16 j11 j17 j18 j19 j20 j21 j22 j23 j24 j25=>?_) ps.xs 0 (fun j=>by simp) (by simp) go
 ·unfold apartRest at key
  simp only [apartBody,Tryd.f92,Option.getD_some,pO] at *
  have hv:ps.val=.slice (ps.blk.map (⟨·,0,none⟩)) ps.xs.length ps.cap:=rfl
  apply good_still
  ·intro l K un w Stop St hd d
   have hc:=St.clear
   refine Br.liv_seq (fun d=>?_) _
   refine Br.liv_region (fun d=>?_) _
   simp only [Br.rz,Br.ix,Nat.reduceAdd]
   refine Br.mo rfl rfl hc (fun d K' hK=>?_) _
   go_simp
   refine hK _ _ ⟨rfl,?_⟩
   clear hK K'
   refine Br.mo rfl rfl hc (fun d K' hK=>?_) _
   go_simp
   refine hK _ _ ⟨rfl,?_⟩
   clear hK K'
   refine Br.liv_region_end (fun d=>?_) _
   refine Br.liv_seq (fun d=>?_) _
   refine Br.liv_seq (fun d=>?_) _
   refine Br.liv_region (fun d=>?_) _
   simp only [Br.rz,Br.ix,Nat.reduceAdd]
   refine Br.mo rfl rfl hc (fun d K' hK=>?_) _
   go_simp
   refine hK _ _ ⟨rfl,?_⟩
   clear hK K'
   refine Br.mo rfl rfl hc (fun d K' hK=>?_) _
   go_simp
   refine hK _ _ ⟨rfl,?_⟩
   clear hK K'
   refine Br.mo rfl rfl hc (fun d K' hK=>?_) _
   go_simp
   refine hK _ _ ⟨rfl,?_⟩
   clear hK K'
   refine Br.liv_region_end (fun d=>?_) _
   refine Br.mc rfl (fun u=>stepG_block) (fun d=>?_) _
   refine Br.mc rfl (fun u=>stepG_loop) (fun d=>?_) _
   exact hd _
  rw [← hv]
  exact key undef undef undef undef undef undef undef undef undef undef
 ·rw [M.bind_then]
  have key2:=apart_loop2 (C:=C) (n:=n) (free:=free) child ps fs hfs fr cs (fun go'=>(callM 12 child 0 0).then go' k) (fun go' j16 j11 j17 j18 j19 j20 j21 j22 j23 j24 j25 j28 j13 j29 j30 j31 j32 j33 j34 j35 j36 j37=>?_) fs.xs 0 (fun j=>by simp) (by simp) go' j16 j11 j17 j18 j19 j20 j21 j22 j23 j24 j25
  ·unfold apartRest2 at key2
   unfold apartTail
   simp only [Tryd.f92,pO] at *
   have hv:fs.val=.slice (fs.blk.map (⟨·,0,none⟩)) fs.xs.length fs.cap:=rfl
   apply good_still
   ·intro l K un w Stop St hd d
    have hc:=St.clear
    refine Br.liv_seq (fun d=>?_) _
    refine Br.liv_seq (fun d=>?_) _
    refine Br.liv_region (fun d=>?_) _
    simp only [Br.rz,Br.ix,Nat.reduceAdd]
    refine Br.mo rfl rfl hc (fun d K' hK=>?_) _
    go_simp
    refine hK _ _ ⟨rfl,?_⟩
    clear hK K'
    refine Br.mo rfl rfl hc (fun d K' hK=>?_) _
    go_simp
    refine hK _ _ ⟨rfl,?_⟩
    clear hK K'
    refine Br.mo rfl rfl hc (fun d K' hK=>?_) _
    go_simp
    refine hK _ _ ⟨rfl,?_⟩
    clear hK K'
    refine Br.liv_region_end (fun d=>?_) _
    refine Br.mc rfl (fun u=>stepG_block) (fun d=>?_) _
    refine Br.mc rfl (fun u=>stepG_loop) (fun d=>?_) _
    exact hd _
   rw [← hv]
   exact key2 undef undef undef undef undef undef undef undef undef undef
  ·unfold apartTail2
   simp only [Tryd.f92,pO]
   apply good_still
   ·intro l K un w Stop St hd d
    have hc:=St.clear
    refine Br.liv_seq (fun d=>?_) _
    refine Br.liv_region (fun d=>?_) _
    simp only [Br.rz,Br.ix,Nat.reduceAdd]
    refine Br.mo rfl rfl hc (fun d K' hK=>?_) _
    go_simp
    refine hK _ _ ⟨rfl,?_⟩
    clear hK K'
    refine Br.mo rfl rfl hc (fun d K' hK=>?_) _
    go_simp
    refine hK _ _ ⟨rfl,?_⟩
    clear hK K'
    refine Br.mo rfl rfl hc (fun d K' hK=>?_) _
    go_simp
    refine hK _ _ ⟨rfl,?_⟩
    clear hK K'
    refine Br.mc rfl (fun u=>stepG_call rfl rfl (by decide) rfl Tryd.func84 rfl rfl (vs:=callArgs C.o 12 child 0 0) (by simp [Act.eval]) u) (fun d=>?_) _
    exact hd _
   refine good_call 12 child 0 0 _ _ _ (fun x e go'' hg=>?_)
   rw [Frame.finish_at]
   apply good_still
   ·intro l K un w Stop St hd d
    have hc:=St.clear
    go_simp
    refine Br.mo rfl rfl hc (fun d K' hK=>?_) _
    go_simp
    refine hK _ _ ⟨rfl,?_⟩
    clear hK K'
    refine Br.mo rfl rfl hc (fun d K' hK=>?_) _
    go_simp
    refine hK _ _ ⟨rfl,?_⟩
    clear hK K'
    refine Br.mo rfl rfl hc (fun d K' hK=>?_) _
    go_simp
    refine hK _ _ ⟨rfl,?_⟩
    clear hK K'
    refine Br.mo rfl rfl hc (fun d K' hK=>?_) _
    go_simp
    refine hK _ _ ⟨rfl,?_⟩
    clear hK K'
    refine Br.liv_region_end (fun d=>?_) _
    refine Br.liv_ret (fun d=>?_) _
    exact Br.liv_leave (v:=.tuple #[.int .i64 x,.int .i64 e]) rfl rfl Tryd.func92 (resultsC_tmp2 (t:=8) (u:=9) rfl _) hd _
    done
   exact hn x e go''
end
def swapL (xs:List Int)(i j:Nat):List Int:=(xs.set i (xs.getD j 0)).set j (xs.getD i 0)
def downL:Nat→List Int→Nat→Nat→List Int
 | 0,xs,_,_=>xs
 | f+1,xs,i,n =>
  if n≤2*i+1 then xs else
  let j:=if 2*i+2<n∧xs.getD (2*i+2) 0<xs.getD (2*i+1) 0 then 2*i+2 else 2*i+1
  if xs.getD j 0<xs.getD i 0 then downL f (swapL xs i j) j n else xs
def popL (xs:List Int):List Int:=(downL xs.length (swapL xs 0 (xs.length - 1)) 0 (xs.length - 1)).take (xs.length - 1)
def Holds (c:Array Value)(xs:List Int):Prop:=∀ (i:Nat) (x:Int),xs[i]?=some x→c[i]?=some (.int .i64 x)
def PopSpec:Prop:=∀ (v:World) (p:Addr) (b cap:Nat) (c:Array Value) (t:TypeId) (xs:List Int),p.spot=none→p.block≠b→xs≠[]→xs.length≤40→xs.length≤cap→v.cell? p=some (.slice (some ⟨b,0,none⟩) xs.length cap)→v.frozen? p=false→v.heap[b]?=some (.cells c t (0,0))→Holds c xs →
 Calls Tryd.prog 94 #[.iface 129 (.pointer (some p))] v (fun e v'=>(∃ x,e=.returned x)∧∃ c',Holds c' (popL xs)∧(popL xs).length=xs.length - 1∧v.heap.size≤v'.heap.size∧v'.heap[b]?=some (.cells c' t (0,0))∧v'.heap[p.block]?=(v.setCell p (.slice (some ⟨b,0,none⟩) (xs.length - 1:Nat) cap)).heap[p.block]? ∧
  ∀ k,k<v.heap.size→k≠b→k≠p.block→v'.heap[k]?=v.heap[k]?)
section
variable {C:Ctx} {n:Nat} {s:Strat} {pv:List Nat} {H:Heap} {free:Value} {go:Bool}
theorem At.chg {l:List OpD}{K:Ker}{un:Bool}{w:World}(A:At C l K pv H free un go w){w':World}{b:Nat}(hb:b≠C.o.bo)(hbp:b∈pv)(hR:Rep w' C.bk C.bf C.bs C.bd K)(hF:Fit (sfO l) w')(hsz:w.heap.size≤w'.heap.size)(hk:∀ k,k<w.heap.size→k≠b→k≠C.o.bo→w'.heap[k]?=w.heap[k]?){x:Obj}(hx:w'.heap[b]?=some x)
  {t:TypeId}{free':Value}(hr:w'.heap[C.o.bo]?=some (.cells (oRow C 0 0 free' un go) t (0,0))):At C l K pv ((H.set b x).set C.o.bo (.cells (oRow C 0 0 free' un go) t (0,0))) free' un go w':=by
 have hlt:∀ i∈pv,i<w.heap.size:=fun i hi=>(Array.getElem?_eq_some_iff.1 (A.has i hi)).1
 obtain ⟨b0,b1,b2,b3,b4⟩:=A.own.ap b hbp
 refine ⟨⟨hR,A.env.tab.same (hk 0 A.env.tab.lt (Ne.symm b4) (Ne.symm (A.env.ap _ A.mem).2.2.2.2)),A.env.inv,hF,fun o ho=>?_,A.env.ap⟩,A.mem,A.own,fun i hi=>?_,⟨t,Heap.set_same _ _ _⟩,A.top,A.far⟩
 ·by_cases e:o.bo=C.o.bo
  ·obtain ⟨c,t',h0,h1,h2,h3⟩:=A.env.ko o ho
   obtain ⟨t2,hb0⟩:=A.blk
   rw [e,hb0] at h0
   obtain ⟨rfl,rfl,_⟩:=Obj.cells.inj (Option.some.inj h0)
   exact ⟨oRow C 0 0 free' un go,t,by rw [e];exact hr,h1,h2,h3⟩
  ·obtain ⟨c,t',h0,h1⟩:=A.env.ko o ho
   exact ⟨c,t',by rw [hk _ (Br.KO.lt A.env.ko ho) (A.far b hbp hb o ho) e];exact h0,h1⟩
 ·by_cases e:i=C.o.bo
  ·subst e;rw [Heap.set_same];exact hr
  ·rw [Heap.set_other _ _ e]
   by_cases e':i=b
   ·subst e';rw [Heap.set_same];exact hx
   ·rw [Heap.set_other _ _ e',hk i (hlt i hi) e' e]
    exact A.has i hi
def Fr (fb:Option Nat)(pv:List Nat)(H:Heap)(free:Value)(xs:List Int):Prop:=∃ sl:Sl,sl.blk=fb∧free=sl.val∧sl.xs=xs∧sl.ok pv H
theorem good_pop (hspec:PopSpec){fb:Option Nat}{xs:List Int}(hF:Fr fb pv H free xs)(hx:xs≠[])(fr:Frame)(cs:List Frame)
  (hn:∀ H' free' x,Fr fb pv H' free' (popL xs)→(∀ i∈pv,some i≠fb→H' i=H i)→Good' C n s pv H' free' go (G (fr.finish x) cs)) :
  Good' C n s pv H free go (G (Frame.enter Tryd.prog 94 #[.iface 129 (.pointer (some ⟨C.o.bo,10,none⟩))] .normal) (fr::cs)):=by
 obtain ⟨sl,rfl,rfl,rfl,hok⟩:=hF
 obtain ⟨b,c,t,h1,h2,h3,h4⟩:=hok.2.resolve_left hx
 have hlen:=hok.1
 have hv:sl.val=.slice (some ⟨b,0,none⟩) sl.xs.length sl.cap:=by simp [Sl.val,h1]
 refine good_step (R:=fun pv' H' free' g'=>∃ x c',pv'=pv∧H'=H.set b (.cells c' t (0,0))∧Holds c' (popL sl.xs)∧(popL sl.xs).length=sl.xs.length - 1∧free'=.slice (some ⟨b,0,none⟩) (sl.xs.length - 1:Nat) sl.cap∧g'=G (fr.finish x) cs) (fun l K un w Stop St h d=>?_) ?_
 ·obtain ⟨H',A,hH⟩:=St
  obtain ⟨z1,z2,z3⟩:=A.env.zero
  have hbo:b≠C.o.bo:=(hH b h2).1
  have hbH:w.heap[b]?=some (.cells c t (0,0)):=by rw [A.has b (List.mem_cons_of_mem _ h2),(hH b h2).2,h3]
  have hsb:sfO l b=0:=Br.sfO_zero fun o ho=>A.far b (List.mem_cons_of_mem _ h2) hbo o ho
  obtain ⟨t2,hrow⟩:=A.blk
  refine (Br.must_calls Br.rules (sft:=sfO l) (w0:=w.at d) (by kernel_rfl) ⟨A.env.fit.soft,A.env.fit.clear⟩ false (Q:=fun x v'=>∃ v c',Lk (sfO l) v (w.at d)∧Holds c' (popL sl.xs)∧(popL sl.xs).length=sl.xs.length - 1∧v.heap.size≤v'.heap.size∧v'.heap[b]?=some (.cells c' t (0,0)) ∧
    v'.heap[C.o.bo]?=(v.setCell ⟨C.o.bo,10,none⟩ (.slice (some ⟨b,0,none⟩) (sl.xs.length - 1:Nat) sl.cap)).heap[C.o.bo]?∧∀ k,k<v.heap.size→k≠b→k≠C.o.bo→v'.heap[k]?=v.heap[k]?)
   (fun v hv'=>(hspec v ⟨C.o.bo,10,none⟩ b sl.cap c t sl.xs rfl (Ne.symm hbo) hx (by omega) (by omega) ?_ ?_ ?_ h4).mono fun e v' he=>?_) fr cs).keep.then ?_
  ·rw [hv'.cell,← hv]
   exact A.cell rfl
  ·have:=hv'.heap C.o.bo
   rw [show (w.at d).heap=w.heap from rfl,hrow,Br.sfO_mem A.mem] at this
   simp [World.frozen?,this,Br.fz]
  ·rw [hv'.heap,show (w.at d).heap=w.heap from rfl,hbH,hsb];rfl
  ·obtain ⟨⟨x,rfl⟩,c',q1,q2,q3,q4,q5,q6⟩:=he
   exact ⟨v,c',hv',q1,q2,q3,q4,q5,q6⟩
  ·rintro g w' ⟨⟨x,v',rfl,hl',v,c',hv',q1,q2,q3,q4,q5,q6⟩,hkp⟩
   have hvs:v.heap.size=w.heap.size:=hv'.size
   have hk:∀ k,k<w.heap.size→k≠b→k≠C.o.bo→w'.heap[k]?=w.heap[k]?:=fun k hk e1 e2=>same_block (w:=w.at d) hkp hv' hl' (q6 k (by omega) e1 e2)
   have hbw:w'.heap[b]?=some (.cells c' t (0,0)):=by
    have:=hl'.heap b
    rw [q4,hsb] at this
    cases e:w'.heap[b]? with
    | none=>rw [e] at this;cases this
    | some o =>
     rw [e,Option.map_some] at this
     have hs:Br.Obj.sight o:=Br.fz_sighted (Option.some.inj this).symm trivial
     rw [Br.fz_sight hs] at this;exact this.symm
   have hrw:w'.heap[C.o.bo]?=some (.cells (oRow C 0 0 (.slice (some ⟨b,0,none⟩) (sl.xs.length - 1:Nat) sl.cap) un go) t2 (0,0)):=by
    have e2:v.heap[C.o.bo]?=some (.cells (oRow C 0 0 sl.val un go) t2 (0,3)):=by
     rw [hv'.heap,show (w.at d).heap=w.heap from rfl,hrow,Br.sfO_mem A.mem];rfl
    rw [Br.heap_setCell,if_pos rfl,e2] at q5
    have e3:=hl'.heap C.o.bo
    rw [q5,Br.sfO_mem A.mem] at e3
    obtain ⟨c2,t',h'⟩:=hl'.soft C.o.bo (by rw [Br.sfO_mem A.mem];omega)
    rw [h'] at e3 ⊢
    simp only [Option.map_some,Br.fz,Option.some.injEq,Obj.cells.injEq] at e3
    obtain ⟨e4,e5,_⟩:=e3
    rw [← e4,← e5]
    rfl
   obtain ⟨a0,a1,a2,a3,a4⟩:=A.env.ap _ A.mem
   obtain ⟨b0,b1,b2,b3,b4⟩:=A.own.ap b (List.mem_cons_of_mem _ h2)
   have hs:w.heap.size≤w'.heap.size:=by rw [← hl'.size,← hvs];exact q3
   have A':=A.chg hbo (List.mem_cons_of_mem _ h2) (A.env.rep.same hs (fun k hk' h=>hk k hk' (by rcases h with rfl|rfl|rfl|rfl<;>first|exact Ne.symm b0|exact Ne.symm b1|exact Ne.symm b2|exact Ne.symm b3) (by rcases h with rfl|rfl|rfl|rfl<;>first|exact Ne.symm a0|exact Ne.symm a1|exact Ne.symm a2|exact Ne.symm a3))) hl'.fit hs hk hbw hrw
   refine h pv _ _ _ w' ⟨x,c',rfl,rfl,q1,q2,rfl,rfl⟩ ⟨_,A',fun i hi=>⟨(hH i hi).1,?_⟩⟩ ⟨hs,fun k hk' h0 _ _ _=>hk k hk' (fun e=>h0 (by rw [e];exact List.mem_cons_of_mem _ h2)) (fun e=>h0 (by rw [e];exact List.mem_cons_self ..))⟩ (fun i hi=>.inl hi) w'.drawn
   rw [Heap.set_other _ _ (hH i hi).1]
   by_cases e:i=b
   ·subst e;rw [Heap.set_same,Heap.set_same]
   ·rw [Heap.set_other _ _ e,Heap.set_other _ _ e];exact (hH i hi).2
 ·rintro pv' H' free' g' ⟨x,c',rfl,rfl,q1,q2,rfl,rfl⟩
  refine hn _ _ x ⟨⟨some b,sl.cap,popL sl.xs⟩,h1.symm,by simp [Sl.val,q2],rfl,by show (popL sl.xs).length≤min 40 sl.cap;omega,.inr ⟨b,c',t,rfl,h2,Heap.set_same _ _ _,q1⟩⟩ (fun i hi he=>?_)
  rw [Heap.set_other _ _ (fun e=>he (by rw [e,h1]))]
end
end Go.Proofs.YtcgabodkegcpgaaDoor
namespace Go.Proofs.YtcgabodkegcpgaaDoor
theorem swapL_len (xs:List Int)(i j:Nat):(swapL xs i j).length=xs.length:=by simp [swapL]
theorem downL_len:∀ (f:Nat) (xs:List Int) (i n:Nat),(downL f xs i n).length=xs.length:=by
 intro f
 induction f with
 | zero=>intro xs i n;rfl
 | succ f ih =>
  intro xs i n
  unfold downL
  dsimp only
  split
  ·rfl
  ·split<;>split<;>first|rfl|rw [ih,swapL_len]
theorem popL_len (xs:List Int):(popL xs).length=xs.length - 1:=by
 unfold popL
 rw [List.length_take,downL_len,swapL_len]
 omega
end Go.Proofs.YtcgabodkegcpgaaDoor
namespace Go.Proofs.YtcgabodkegcpgaaDoor
open Go.RowKit
attribute [local go_sem ↓] Go.wp_at_zero Go.wp_at_succ
theorem flen_any (w:World)(a:Option Addr)(n cap:Nat):Calls Tryd.prog 114 #[.slice a n cap] w fun e w'=>e=.returned (.int .i64 n)∧w'=w:=by
 go_enter Tryd.func114,Tryd.ntmps114
 go_wp2_with fail
 go_ret
 exact ⟨rfl,rfl⟩
theorem fless_any (w:World)(b n cap i j:Nat)(x y:Int)(hi:i<n)(hj:j<n)(hx:w.cell? ⟨b,i,none⟩=some (.int .i64 x))(hy:w.cell? ⟨b,j,none⟩=some (.int .i64 y)):Calls Tryd.prog 115 #[.slice (some ⟨b,0,none⟩) n cap,.int .i64 i,.int .i64 j] w fun e w'=>e=.returned (.bool (decide (x<y)))∧∃ q,w'=w.drewN q:=by
 have i1:(0:Int)≤(i:Int):=by omega
 have i2:(i:Int)<(n:Int):=by omega
 have j1:(0:Int)≤(j:Int):=by omega
 have j2:(j:Int)<(n:Int):=by omega
 go_enter Tryd.func115,Tryd.ntmps115
 go_wp2_with fail
 go_quiet (fail)
 go_wp2_with fail
 go_ret
 exact ⟨rfl,_,rfl⟩
theorem fswap_any (w:World)(b n cap i j:Nat)(x y:Int)(hi:i<n)(hj:j<n)(hx:w.cell? ⟨b,i,none⟩=some (.int .i64 x))(hy:w.cell? ⟨b,j,none⟩=some (.int .i64 y))(hf:∀ k,w.frozen? ⟨b,k,none⟩=false):Calls Tryd.prog 116 #[.slice (some ⟨b,0,none⟩) n cap,.int .i64 i,.int .i64 j] w fun e w'=>(∃ v,e=.returned v)∧∃ q,w'=((w.setCell ⟨b,i,none⟩ (.int .i64 y)).setCell ⟨b,j,none⟩ (.int .i64 x)).drewN q:=by
 have i1:(0:Int)≤(i:Int):=by omega
 have i2:(i:Int)<(n:Int):=by omega
 have j1:(0:Int)≤(j:Int):=by omega
 have j2:(j:Int)<(n:Int):=by omega
 have f1:=hf i
 have f2:=hf j
 go_enter Tryd.func116,Tryd.ntmps116
 by_cases hij:i=j
 ·subst hij
  obtain rfl:x=y:=by rw [hx] at hy;cases hy;rfl
  go_region_with (fail)
  all_goals (go_end0;exact ⟨⟨_,rfl⟩,1,rfl⟩)
 ·have hji:¬ j=i:=fun e=>hij e.symm
  go_region_with (fail)
  all_goals (go_end0;exact ⟨⟨_,rfl⟩,1,rfl⟩)
theorem fpop_any (w:World)(p:Addr)(hp:p.spot=none)(b n cap:Nat)(x:Int)(hn:n+1≤cap)(hpb:p.block≠b)(hc:w.cell? p=some (.slice (some ⟨b,0,none⟩) (n+1) cap))(hz:w.frozen? p=false)(hx:w.cell? ⟨b,n,none⟩=some (.int .i64 x))(hs:n<1000):Calls Tryd.prog 117 #[.pointer (some p)] w fun e w'=>(∃ v,e=.returned v)∧w'=w.setCell p (.slice (some ⟨b,0,none⟩) n cap):=by
 obtain ⟨pb,po,ps⟩:=p
 obtain rfl:ps=none:=hp
 have i1:(0:Int)≤(n:Int):=by omega
 have i2:(n:Int)<((n+1:Nat):Int):=by omega
 have i3:(n:Int)≤(cap:Int):=by omega
 have i4:n≤cap:=by omega
 go_enter Tryd.func117,Tryd.ntmps117
 go_wp2_with fail
 go_ret
 exact ⟨⟨_,rfl⟩,rfl⟩
theorem m_pop (w:World)(ad:Addr):(method 263 129 (.pointer (some ad)) "Pop").run Tryd.prog w=.ok (117,.pointer (some ad)) w:=by kernel_rfl
theorem m_push (w:World)(ad:Addr):(method 263 129 (.pointer (some ad)) "Push").run Tryd.prog w=.ok (118,.pointer (some ad)) w:=by kernel_rfl
theorem m_len0 (w:World)(ad:Addr):(method 263 129 (.pointer (some ad)) "Len").run Tryd.prog w=(loadVar 109 ad >>= fun v=>pure (114,v)).run Tryd.prog w:=by kernel_rfl
theorem m_len (w:World)(p po:Nat)(a:Option Addr)(n cap:Nat)(hc:w.cell? ⟨p,po,none⟩=some (.slice a n cap)):(method 263 129 (.pointer (some ⟨p,po,none⟩)) "Len").run Tryd.prog w=.ok (114,.slice a n cap) w:=by
 rw [m_len0]
 have hu:Tryd.prog.underlying 109=some (.slice 3):=by kernel_rfl
 simp [go_sem,hc,hu]
theorem m_less0 (w:World)(ad:Addr):(method 263 129 (.pointer (some ad)) "Less").run Tryd.prog w=(loadVar 109 ad >>= fun v=>pure (115,v)).run Tryd.prog w:=by kernel_rfl
theorem m_less (w:World)(p po:Nat)(a:Option Addr)(n cap:Nat)(hc:w.cell? ⟨p,po,none⟩=some (.slice a n cap)):(method 263 129 (.pointer (some ⟨p,po,none⟩)) "Less").run Tryd.prog w=.ok (115,.slice a n cap) w:=by
 rw [m_less0]
 have hu:Tryd.prog.underlying 109=some (.slice 3):=by kernel_rfl
 simp [go_sem,hc,hu]
theorem m_swap0 (w:World)(ad:Addr):(method 263 129 (.pointer (some ad)) "Swap").run Tryd.prog w=(loadVar 109 ad >>= fun v=>pure (116,v)).run Tryd.prog w:=by kernel_rfl
theorem m_swap (w:World)(p po:Nat)(a:Option Addr)(n cap:Nat)(hc:w.cell? ⟨p,po,none⟩=some (.slice a n cap)):(method 263 129 (.pointer (some ⟨p,po,none⟩)) "Swap").run Tryd.prog w=.ok (116,.slice a n cap) w:=by
 rw [m_swap0]
 have hu:Tryd.prog.underlying 109=some (.slice 3):=by kernel_rfl
 simp [go_sem,hc,hu]
end Go.Proofs.YtcgabodkegcpgaaDoor
