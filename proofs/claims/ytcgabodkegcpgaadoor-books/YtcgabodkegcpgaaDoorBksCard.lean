/- burrowlaw.Books answers true for all settings and every script, and leaves the script as it was; the package variable burrow/kernel.calls starts as the program's text lays it (the card ties it). -/
import Derived.Test.YtcgabodkegcpgaaDoorCards
import Derived.Test.YtcgabodkegcpgaaDoorTie
import Derived.Test.YtcgabodkegcpgaaDoorCall
import Derived.Test.YtcgabodkegcpgaaDoorBkb
import Derived.Test.YtcgabodkegcpgaaDoorBkc
import Derived.WalkKit
import Derived.ProofKit
import Derived.OpenShut
import Derived.ChangeOld
import Derived.Below
import Derived.Deep.Grids
import Derived.Deep.DeepHandedRow
namespace Go.Proofs.YtcgabodkegcpgaaDoor.books
open Go.ChangeShapes Go.WideShapes Go.ChangeAt Go.RowKit Go.Deep Go.Conc
set_option linter.unusedVariables false
set_option maxHeartbeats 20000000
theorem right_law:RightLaw:=fun w K I hF hD gF gS gD S=>right_any w K I hF hD gF gS gD S
theorem own:ownKnob Tryd.prog.godebug=none:=by kernel_rfl
theorem laidOut:laidOutB Tryd.prog=true:=by kernel_rfl
set_option maxRecDepth 100000 in
theorem contract (H:Type)(enc:TypeId × Value→H)(W:World)(base:Nat)(args:Array Value)(ds gs:List (DataW H))(before:List MemPlace)
  (hval:∀ (j:Nat) t v,Tryd.f5.params[j]?=some t→args[j]?=some v→Value.okWide Tryd.prog W .any base t v)
  (hW:DataW.Whole enc Tryd.prog Tryd.f5.params.toList Rows.booksSpec.vars false W args.toList ds gs before)(hZ:(DataW.weightsEach Tryd.prog (Tryd.f5.params.toList ++ (OpenSpec.ofChange Rows.booksSpec).bare.plain.varTypes Tryd.prog) (ds ++ gs)).all (·≤reachBytes)=true)(hL:laidMetH Tryd.prog Rows.booksRow.laid W) :
  ∃ M last o w' t',runNT Tryd.prog (M+1) (solo (G (Frame.enter Tryd.prog 5 args .normal) []) W) #[]=(.ended o w',t')∧runN Tryd.prog M (solo (G (Frame.enter Tryd.prog 5 args .normal) []) W)=.next last ∧
   step Tryd.prog last=.ended o w'∧Go.Conc.Good Tryd.prog (fun v W'=>Rows.booksSpec.post enc Tryd.prog Tryd.f5 false true false false W args v W') last o w' t':=by
 have hW':=hW
 obtain ⟨p,q,hA0,hV,rfl,hfz,hnd⟩:=hW
 have hA:DataW.TrodAll enc Tryd.prog W 0 (fun _=>true) true Tryd.f5.params.toList args.toList ds p:=hA0
 rw [Tryd.params5] at hA hval
 obtain ⟨v0,vs0,d0,ds0,p0,q0,hargs,rfl,rfl,h0,r0⟩:=trodAll_cons hA
 obtain ⟨v1,vs1,d1,ds1,p1,q1,rfl,rfl,rfl,h1,r1⟩:=trodAll_cons r0
 obtain ⟨rfl,rfl,rfl⟩:=trodAll_nil r1
 obtain rfl:args=#[v0,v1]:=by cases args;simp_all
 obtain ⟨rfl,rfl⟩:=trodVars_none hV
 obtain ⟨cs0,rfl,_⟩:=okWide_struct Tryd.underlying30 (hval 0 30 v0 rfl rfl)
 have k0:=h0
 have lt0:∀ x∈p0,x.block<W.heap.size:=by obtain ⟨m,hm⟩:=k0;exact DataW.trod_lt m _ _ _ hm
 have k1:=h1
 have lt1:∀ x∈p1,x.block<W.heap.size:=by obtain ⟨m,hm⟩:=k1;exact DataW.trod_lt m _ _ _ hm
 obtain ⟨x,y,z,e0,hx,hy,hz⟩:∃ x y z,cs0=#[.int .i64 x,.int .i64 y,.int .i64 z]∧(-9223372036854775808≤x∧x<9223372036854775808)∧(-9223372036854775808≤y∧y<9223372036854775808)∧(-9223372036854775808≤z∧z<9223372036854775808):=by
  obtain ⟨fuel,hf⟩:=h0
  obtain ⟨x,y,z,hc,hx,hy,hz⟩:=open_config hf
  refine ⟨x,y,z,?_,hx,hy,hz⟩
  have hc':cs0.toList=[.int .i64 x,.int .i64 y,.int .i64 z]:=hc
  cases cs0
  simp_all
 subst e0
 obtain ⟨a1,len1,cap1,rfl⟩:=okWide_slice Tryd.underlying35 (hval 1 35 v1 rfl rfl)
 obtain ⟨W1,m1⟩:Script W a1 len1∧((d1=.nil∧len1=0)∨∃ el sp,d1=.slice el sp∧len1≤el.length+sp.length):=by
  obtain ⟨fuel,hf⟩:=h1
  obtain ⟨a,n,c,e,hs,hm⟩:=open_acts3 hf
  injection e with e1 e2 e3
  subst e1;subst e2
  exact ⟨hs,hm⟩
 have hn:=acts_le hZ (j:=1) (d:=d1) rfl rfl m1
 clear hA0
 obtain ⟨M,last,o,w',t',r1,r2,r3,r4⟩:=books_run (bk_19 right_law) W (tab_of rfl hL) x y z hx hy hz a1 len1 cap1 (by omega) W1
 refine ⟨M,last,o,w',t',r1,r2,r3,r4.mono fun v hF=>?_⟩
 obtain ⟨⟨rfl,hs,hb⟩,c1,c2,c3⟩:=hF
 have bel:Below W.heap.size W w':=⟨c1,c3,c2,hs,hb⟩
 exact ⟨_,_,_,[],_,[],hW',trodAll_mk1 (shut_bool Tryd.underlying4 _),(trodAll_cons_mk (Below.trod laidOut (by kernel_rfl) (of_decide_eq_true (by kernel_rfl)) k0 bel lt0) (trodAll_cons_mk (Below.trod laidOut (by kernel_rfl) (of_decide_eq_true (by kernel_rfl)) k1 bel lt1) trodAll_mk0)),rfl,bel.frame _,fun h=>by cases h⟩
def tabCells:Array Value:=((List.range 20).flatMap fun i=>[Value.bool (there i),.int .i64 ((argKinds i).getD 0 0),.int .i64 ((argKinds i).getD 1 0),.int .i64 ((argKinds i).getD 2 0)]).toArray
def laidWorld (h:World):World :=
 { h with heap:=h.heap.modify 0 fun
   | .cells _ t frozen=>.cells tabCells t frozen
   | o=>o }
theorem laid_met (os:Os):laidMet Tryd.prog Rows.booksRow.laid ((laidWorld (World.holding Tryd.prog os ⟨#[],#[],[]⟩)).forCall (fun _ _=>0) ⟨#[],#[.agg #[.int .i64 0,.int .i64 0,.int .i64 0],.slice none 0 0],[]⟩).memory :=
 laidMet_of_run' 8 (by kernel_rfl) (by kernel_rfl)
theorem reads (os:Os){H:Type}(enc:TypeId × Value→H):∃ places,DataW.whole enc Tryd.prog ((laidWorld (World.holding Tryd.prog os ⟨#[],#[],[]⟩)).forCall (fun _ _=>0) ⟨#[],#[.agg #[.int .i64 0,.int .i64 0,.int .i64 0],.slice none 0 0],[]⟩).memory Tryd.f5.params.toList Rows.booksSpec.vars false #[Value.agg #[.int .i64 0,.int .i64 0,.int .i64 0],.slice none 0 0].toList 8=some ([.agg [.lit (.int .i64 0),.lit (.int .i64 0),.lit (.int .i64 0)],.nil],[],places) :=
 ⟨[],by kernel_rfl⟩
set_option maxRecDepth 100000 in
theorem lifted (os:Os)(started:os.Started)(H:Type)(enc:TypeId × Value→H)(F:Stop.Interp) :
  ReturnsInLeavingWide {} Tryd.checked os 5 .any ((OpenSpec.ofChange Rows.booksSpec).preRow enc Tryd.prog Tryd.f5 Rows.booksRow.domain false Rows.booksRow.laid) (((OpenSpec.ofChange Rows.booksSpec).at F).post enc Tryd.prog Tryd.f5 false true false false):=by
 obtain ⟨places,hx⟩:=reads os enc
 refine leaving_of_row (C:=Tryd.checked) (s:=OpenSpec.ofChange Rows.booksSpec) own started Tryd.func5
  (witness_row_at (enc:=enc) (C:=Tryd.checked) false (laidWorld (World.holding Tryd.prog os ⟨#[],#[],[]⟩)) #[.agg #[.int .i64 0,.int .i64 0,.int .i64 0],.slice none 0 0] rfl (by kernel_rfl) (by kernel_rfl) (by kernel_rfl)
   (OpenSpec.preRow_of_cond 8 hx (by kernel_rfl) (fun k hk=>by cases hk) (by kernel_rfl) (laid_met os))) ?_
 intro W base args ds gs before hval hW hZ hL
 exact contract H enc W base args ds gs before hval hW hZ hL
theorem said:Rows.BooksSaid :=
 OpenClaim.holds_of_wide_leaving 5 Tryd.f5 rfl rfl rfl rfl rfl rfl rfl ⟨rfl,rfl,rfl,rfl,rfl⟩ rfl rfl rfl rfl rfl (by kernel_rfl) Tryd.func5 (by kernel_rfl)
  (of_decide_eq_true (by kernel_rfl)) (by unfold Func.isWrapper;first|(rw [if_pos (by decide +kernel)];kernel_rfl)|(rw [if_neg (by decide +kernel)];exact ⟨rfl,rfl⟩))
  (fun os started H enc _=>by rw [OpenClaim.pre_eq_preRow];exact lifted os started H enc (fun _ _ _=>0))
theorem plain (f:FuncId)(fn:Func)(hf:Tryd.pinned.checked.prog.funcNamed "burrow/burrowlaw.Books" = some f)(hfn:Tryd.pinned.checked.prog.funcs[f]?=some fn) :
  Rows.booksCard.stood.looks=Tryd.pinned.checked.prog.looks []∧∀ (j:Nat) t,fn.params[j]?=some t→Tryd.pinned.checked.prog.wantsStandIn t=false:=by
 obtain rfl:f=5:=Option.some.inj ((show Tryd.prog.funcNamed "burrow/burrowlaw.Books" = some 5 by kernel_rfl).symm.trans hf) |>.symm
 obtain rfl:fn=Tryd.f5:=(Option.some.inj (Tryd.func5.symm.trans hfn)).symm
 refine ⟨by kernel_rfl,fun j t ht=>?_⟩
 rw [Tryd.params5] at ht
 have ht':=Array.mem_of_getElem? ht
 simp at ht'
 rcases ht' with rfl|rfl
 ·exact (show Tryd.prog.wantsStandIn 30=false by kernel_rfl)
 ·exact (show Tryd.prog.wantsStandIn 35=false by kernel_rfl)
theorem card:Rows.BooksCardSaid :=
 tied_goes .later _ _ _ _ said (by kernel_rfl) books_row_tie rfl ⟨rfl,rfl⟩ (by kernel_rfl) rfl plain (by kernel_rfl)
#print axioms card
end Go.Proofs.YtcgabodkegcpgaaDoor.books
