/- burrowlaw.Sends answers true for every list of words and every list of ways that are together of bulk at most 1048576 (the statement's own bound), and leaves both lists as they were; the package variable burrow/kernel.calls starts as the program's text lays it (the card ties it). -/
import Derived.Test.YtcgabodkegcpgaaDoorCards
import Derived.Test.YtcgabodkegcpgaaDoorTie
import Derived.Test.YtcgabodkegcpgaaDoorCall
import Derived.Test.YtcgabodkegcpgaaDoorSnc
import Derived.WalkKit
import Derived.ProofKit
import Derived.OpenShut
import Derived.ChangeOld
import Derived.Below
import Derived.Deep.Grids
import Derived.Deep.DeepHandedRow
set_option linter.unusedVariables false
set_option linter.unusedSimpArgs false
set_option maxHeartbeats 20000000
set_option maxRecDepth 100000
namespace Go.Proofs.YtcgabodkegcpgaaDoor.sends
open Go.ChangeShapes Go.WideShapes Go.ChangeAt Go.RowKit Go.Deep Go.Conc
theorem own:ownKnob Tryd.prog.godebug=none:=by kernel_rfl
theorem laidOut:laidOutB Tryd.prog=true:=by kernel_rfl
theorem spot_none {W:World}{x:Addr}{i:Nat}{v:Value}(h:W.cell? (x.add i)=some v):W.cell? ⟨x.block,x.off+i,none⟩=some v:=by
 have hs:=World.cell?_spot h
 obtain ⟨b,o,s⟩:=x
 unfold Addr.add at h hs
 split at h
 ·rename_i e
  subst e
  simp at hs
  subst hs
  simpa using h
 ·simpa using h
theorem list_of {α:Type}{P:Nat→α→Prop}:∀ n,(∀ i,i<n→∃ x,P i x)→∃ xs:List α,xs.length=n∧∀ i x,xs[i]?=some x→P i x
 | 0,_=>⟨[],rfl,fun i x h=>by simp at h⟩
 | n+1,h=>by
  obtain ⟨xs,hl,hx⟩:=list_of n (fun i hi=>h i (by omega))
  obtain ⟨y,hy⟩:=h n (by omega)
  refine ⟨xs ++ [y],by simp [hl],fun i x he=>?_⟩
  by_cases e:i<n
  ·rw [List.getElem?_append_left (by omega)] at he;exact hx i x he
  ·have hi:i<(xs ++ [y]).length:=(List.getElem?_eq_some_iff.1 he).1
   obtain rfl:i=n:=by simp [hl] at hi;omega
   rw [List.getElem?_append_right (by omega),hl,Nat.sub_self] at he
   obtain rfl:y=x:=by simpa using he
   exact hy
theorem contract (H:Type)(enc:TypeId × Value→H)(W:World)(base:Nat)(args:Array Value)(ds gs:List (DataW H))(before:List MemPlace)
  (hval:∀ (j:Nat) t v,Tryd.f8.params[j]?=some t→args[j]?=some v→Value.okWide Tryd.prog W .any base t v)
  (hW:DataW.Whole enc Tryd.prog Tryd.f8.params.toList Rows.sendsSpec.vars false W args.toList ds gs before)(hk:Rows.uptoSmall H (ds ++ gs)=true)(hL:laidMetH Tryd.prog Rows.sendsRow.laid W) :
  ∃ M last o w' t',runNT Tryd.prog (M+1) (solo (G (Frame.enter Tryd.prog 8 args .normal) []) W) #[]=(.ended o w',t')∧runN Tryd.prog M (solo (G (Frame.enter Tryd.prog 8 args .normal) []) W)=.next last ∧
   step Tryd.prog last=.ended o w'∧Go.Conc.Good Tryd.prog (fun v W'=>Rows.sendsSpec.post enc Tryd.prog Tryd.f8 false true false false W args v W') last o w' t':=by
 have hW':=hW
 obtain ⟨p,q,hA0,hV,rfl,hfz,hnd⟩:=hW
 have hA:DataW.TrodAll enc Tryd.prog W 0 (fun _=>true) true Tryd.f8.params.toList args.toList ds p:=hA0
 rw [Tryd.params8] at hA hval
 obtain ⟨v0,vs0,d0,ds0,p0,q0,hargs,rfl,rfl,h0,r0⟩:=trodAll_cons hA
 obtain ⟨v1,vs1,d1,ds1,p1,q1,rfl,rfl,rfl,h1,r1⟩:=trodAll_cons r0
 obtain ⟨rfl,rfl,rfl⟩:=trodAll_nil r1
 obtain rfl:args=#[v0,v1]:=by cases args;simp_all
 obtain ⟨rfl,rfl⟩:=trodVars_none hV
 obtain ⟨a0,len0,cap0,rfl⟩:=okWide_slice Tryd.underlying22 (hval 0 22 v0 rfl rfl)
 obtain ⟨a1,len1,cap1,rfl⟩:=okWide_slice Tryd.underlying23 (hval 1 23 v1 rfl rfl)
 obtain ⟨bk0,bk1⟩:=bulk_two hk
 have k0:=h0
 have lt0:∀ x∈p0,x.block<W.heap.size:=by obtain ⟨m,hm⟩:=k0;exact DataW.trod_lt m _ _ _ hm
 have k1:=h1
 have lt1:∀ x∈p1,x.block<W.heap.size:=by obtain ⟨m,hm⟩:=k1;exact DataW.trod_lt m _ _ _ hm
 obtain ⟨m0,W0⟩:len0≤1048576∧∀ i,i<len0→∃ x,∃ g o,a0=some ⟨g,o,none⟩∧g<W.heap.size∧W.cell? ⟨g,o+i,none⟩=some (.int .i64 x):=by
  obtain ⟨fuel,hf⟩:=h0
  rcases open_ints Tryd.underlying22 Tryd.underlying3 (by kernel_rfl) hf with ⟨hcs,_⟩|⟨x,l,c,zs,hcs,_,hl,hm,hz,hd,hcell,hwz⟩
  ·simp [Value.cells] at hcs
   obtain ⟨rfl,rfl,rfl⟩:=hcs
   exact ⟨by omega,fun i hi=>by omega⟩
  ·simp [Value.cells] at hcs
   obtain ⟨rfl,rfl,rfl⟩:=hcs
   have hz':zs.length=cap0:=by simpa using hz
   have hd':d0=.slice (lits .i64 (zs.take len0)) (lits .i64 (zs.drop len0)):=congrArg Prod.fst hd
   refine ⟨?_,fun i hi=>?_⟩
   ·have hb:=bulk_slice (H:=H) (lits .i64 (zs.take len0)) (lits .i64 (zs.drop len0))
    rw [← hd'] at hb
    simp only [lits,List.length_map,List.length_take] at hb
    omega
   have hs:=hcell i (by omega)
   have h0:=spot_none hs
   have hsp:x.spot=none:=by
    have h00:=hcell 0 (by omega)
    have:=World.cell?_spot h00
    simpa [Addr.add] using this
   obtain ⟨b,o,s⟩:=x
   obtain rfl:s=none:=hsp
   exact ⟨_,b,o,rfl,World.block_lt_of_cell? _ _ h0,h0⟩
 obtain ⟨m1,W1⟩:len1≤1048576∧∀ i,i<len1→∃ x,∃ g o,a1=some ⟨g,o,none⟩∧g<W.heap.size∧W.cell? ⟨g,o+i,none⟩=some (.bool x):=by
  obtain ⟨fuel,hf⟩:=h1
  rcases open_bools Tryd.underlying23 Tryd.underlying4 (by kernel_rfl) hf with ⟨hcs,_⟩|⟨x,l,c,B,hcs,_,hl,hm,hd,hcell⟩
  ·simp [Value.cells] at hcs
   obtain ⟨rfl,rfl,rfl⟩:=hcs
   exact ⟨by omega,fun i hi=>by omega⟩
  ·simp [Value.cells] at hcs
   obtain ⟨rfl,rfl,rfl⟩:=hcs
   have hd':d1=boolRow (some x) len1 cap1 B:=congrArg Prod.fst hd
   refine ⟨?_,fun i hi=>?_⟩
   ·have hb:=bulk_slice (H:=H) ((List.range len1).map fun i=>.lit (.bool (B i))) ((List.range (cap1 - len1)).map fun j=>.lit (.bool (B (len1+j))))
    rw [hd'] at bk1
    simp only [List.length_map,List.length_range] at hb
    exact Nat.le_trans hb bk1
   have hs:=hcell i (by omega)
   have h0:=spot_none hs
   have hsp:x.spot=none:=by
    have h00:=hcell 0 (by omega)
    have:=World.cell?_spot h00
    simpa [Addr.add] using this
   obtain ⟨b,o,s⟩:=x
   obtain rfl:s=none:=hsp
   exact ⟨_,b,o,rfl,World.block_lt_of_cell? _ _ h0,h0⟩
 clear hA0
 obtain ⟨ws,rfl,hws⟩:=list_of len0 W0
 obtain ⟨ys,rfl,hys⟩:=list_of len1 W1
 obtain ⟨M,last,o,w',t',r1,r2,r3,r4⟩:=sends_run W (tab_of rfl hL) a0 a1 ws ys cap0 cap1 hws hys (by omega) (by omega)
 refine ⟨M,last,o,w',t',r1,r2,r3,r4.mono fun v hF=>?_⟩
 obtain ⟨⟨rfl,hs,hb⟩,c1,c2,c3⟩:=hF
 have bel:Below W.heap.size W w':=⟨c1,c3,c2,hs,hb⟩
 exact ⟨_,_,_,[],_,[],hW',trodAll_mk1 (shut_bool Tryd.underlying4 _),(trodAll_cons_mk (Below.trod laidOut (by kernel_rfl) (of_decide_eq_true (by kernel_rfl)) k0 bel lt0) (trodAll_cons_mk (Below.trod laidOut (by kernel_rfl) (of_decide_eq_true (by kernel_rfl)) k1 bel lt1) trodAll_mk0)),rfl,bel.frame _,fun h=>by cases h⟩
def tabCells:Array Value:=((List.range 20).flatMap fun i=>[Value.bool (there i),.int .i64 ((argKinds i).getD 0 0),.int .i64 ((argKinds i).getD 1 0),.int .i64 ((argKinds i).getD 2 0)]).toArray
def laidWorld (h:World):World :=
 { h with heap:=h.heap.modify 0 fun
   | .cells _ t frozen=>.cells tabCells t frozen
   | o=>o }
theorem laid_met (os:Os):laidMet Tryd.prog Rows.sendsRow.laid ((laidWorld (World.holding Tryd.prog os ⟨#[],#[],[]⟩)).forCall (fun _ _=>0) ⟨#[],#[.slice none 0 0,.slice none 0 0],[]⟩).memory :=
 laidMet_of_run' 8 (by kernel_rfl) (by kernel_rfl)
theorem reads (os:Os){H:Type}(enc:TypeId × Value→H):∃ places,DataW.whole enc Tryd.prog ((laidWorld (World.holding Tryd.prog os ⟨#[],#[],[]⟩)).forCall (fun _ _=>0) ⟨#[],#[.slice none 0 0,.slice none 0 0],[]⟩).memory Tryd.f8.params.toList Rows.sendsSpec.vars false #[Value.slice none 0 0,.slice none 0 0].toList 8=some ([.nil,.nil],[],places) :=
 ⟨[],by kernel_rfl⟩
theorem lifted (os:Os)(started:os.Started)(H:Type)(enc:TypeId × Value→H)(F:Stop.Interp) :
  ReturnsInLeavingWide {} Tryd.checked os 8 .any ((Rows.OpenSpec.upto Rows.sendsSpec).preRow enc Tryd.prog Tryd.f8 Rows.sendsUptoRow.domain false Rows.sendsUptoRow.laid) (((Rows.OpenSpec.upto Rows.sendsSpec).at F).post enc Tryd.prog Tryd.f8 false true false false):=by
 obtain ⟨places,hx⟩:=reads os enc
 refine leaving_of_cond (C:=Tryd.checked) (s:=Rows.OpenSpec.upto Rows.sendsSpec) own started Tryd.func8
  (witness_row_at (enc:=enc) (C:=Tryd.checked) false (laidWorld (World.holding Tryd.prog os ⟨#[],#[],[]⟩)) #[.slice none 0 0,.slice none 0 0] rfl (by kernel_rfl) (by kernel_rfl) (by kernel_rfl)
   (OpenSpec.preRow_of_cond 8 hx (by kernel_rfl) (fun k hk=>by cases hk;kernel_rfl) (by kernel_rfl) (laid_met os))) ?_
 intro W base args ds gs before hval hW hk hL
 exact contract H enc W base args ds gs before hval hW (hk _ rfl) hL
theorem said:Rows.SendsUptoSaid :=
 holds_leaving_cond 8 Tryd.f8 ⟨rfl,rfl,rfl⟩ rfl rfl ⟨rfl,rfl,rfl,rfl,rfl,rfl,rfl⟩ rfl rfl rfl rfl rfl (by kernel_rfl) Tryd.func8 (by kernel_rfl)
  (of_decide_eq_true (by kernel_rfl)) (by unfold Func.isWrapper;first|(rw [if_pos (by decide +kernel)];kernel_rfl)|(rw [if_neg (by decide +kernel)];exact ⟨rfl,rfl⟩))
  (fun os started H enc _ F=>by rw [OpenClaim.pre_eq_preRow];exact lifted os started H enc F)
theorem plain (f:FuncId)(fn:Func)(hf:Tryd.pinned.checked.prog.funcNamed "burrow/burrowlaw.Sends" = some f)(hfn:Tryd.pinned.checked.prog.funcs[f]?=some fn) :
  Rows.sendsUptoCard.stood.looks=Tryd.pinned.checked.prog.looks []∧∀ (j:Nat) t,fn.params[j]?=some t→Tryd.pinned.checked.prog.wantsStandIn t=false:=by
 obtain rfl:f=8:=Option.some.inj ((show Tryd.prog.funcNamed "burrow/burrowlaw.Sends" = some 8 by kernel_rfl).symm.trans hf) |>.symm
 obtain rfl:fn=Tryd.f8:=(Option.some.inj (Tryd.func8.symm.trans hfn)).symm
 refine ⟨by kernel_rfl,fun j t ht=>?_⟩
 rw [Tryd.params8] at ht
 have ht':=Array.mem_of_getElem? ht
 simp at ht'
 rcases ht' with rfl|rfl
 ·exact (show Tryd.prog.wantsStandIn 22=false by kernel_rfl)
 ·exact (show Tryd.prog.wantsStandIn 23=false by kernel_rfl)
theorem card:Rows.SendsUptoCardSaid :=
 tied_goes .later _ _ _ _ said (by kernel_rfl) sendsUpto_row_tie rfl ⟨rfl,rfl⟩ (by kernel_rfl) rfl plain (by kernel_rfl)
#print axioms card
end Go.Proofs.YtcgabodkegcpgaaDoor.sends
