/- burrowlaw.Forks answers true for all settings, all lists of pages, words and files, and every code, and leaves the lists as they were; the package variable burrow/kernel.calls starts as the program's text lays it (the card ties it). -/
import Derived.Test.YtcgabodkegcpgaaDoorCards
import Derived.Test.YtcgabodkegcpgaaDoorTie
import Derived.Test.YtcgabodkegcpgaaDoorCall
import Derived.Test.YtcgabodkegcpgaaDoorFfo
import Derived.WalkKit
import Derived.ProofKit
import Derived.OpenShut
import Derived.ChangeOld
import Derived.Below
import Derived.Deep.Grids
import Derived.Deep.DeepHandedRow
set_option linter.unusedVariables false
set_option linter.unusedSimpArgs false
set_option maxHeartbeats 20000000
set_option maxRecDepth 100000
namespace Go.Proofs.YtcgabodkegcpgaaDoor.forks
open Go.ChangeShapes Go.WideShapes Go.ChangeAt Go.RowKit Go.Deep Go.Conc
theorem own:ownKnob Tryd.prog.godebug=none:=by kernel_rfl
theorem a3R:laidOutB Tryd.prog=true:=by kernel_rfl
theorem a7S {W:World}{x:Addr}{i:Nat}{v:Value}(h:W.cell? (x.add i)=some v):W.cell? ⟨x.block,x.off+i,none⟩=some v:=by
 have hs:=World.cell?_spot h;obtain ⟨b,o,s⟩:=x;unfold Addr.add at h hs;split at h
 ·rename_i e;subst e;simp at hs;subst hs;simpa using h
 ·simpa using h
theorem a5F {α:Type}{P:Nat->α->Prop}:∀ n,(∀ i,i<n->∃ x,P i x)->∃ xs:List α,xs.length=n/\∀ i x,xs[i]?=some x->P i x
 | 0,_=>⟨[],rfl,λi x h=>by simp at h⟩
 | n+1,h=>by
  obtain ⟨xs,hl,hx⟩:=a5F n (λi hi=>h i (by omega));obtain ⟨y,hy⟩:=h n (by omega);refine ⟨xs ++ [y],by simp [hl],λi x he=>?_⟩
  by_cases e:i<n
  ·rw [List.getElem?_append_left (by omega)] at he;exact hx i x he
  ·have hi:i<(xs ++ [y]).length:=(List.getElem?_eq_some_iff.1 he).1;obtain rfl:i=n:=by simp [hl] at hi;omega
   rw [List.getElem?_append_right (by omega),hl,Nat.sub_self] at he;obtain rfl:y=x:=by simpa using he
   exact hy
theorem b8N {H:Type}{enc:TypeId × Value->H}{W:World}{a:Option Addr}{len cap:Nat}{d:DataW H}{p:List MemPlace}{b:Nat}{hl:Bool}(h:DataW.Trod enc Tryd.prog W b (λ_=>true) hl 22 (.slice a len cap) d p):∀ i,i<len->∃ x,∃ g o,a=some ⟨g,o,none⟩/\g<W.heap.size/\W.cell? ⟨g,o+i,none⟩=some (.int .i64 x):=by
 obtain ⟨fuel,hf⟩:=h;rcases open_ints Tryd.underlying22 Tryd.underlying3 (by kernel_rfl) hf with ⟨hcs,_⟩|⟨x,l,c,zs,hcs,_,hl,hm,hz,hd,hcell,hwz⟩
 ·simp [Value.cells] at hcs;obtain ⟨rfl,rfl,rfl⟩:=hcs;exact λi hi=>by omega
 ·simp [Value.cells] at hcs;obtain ⟨rfl,rfl,rfl⟩:=hcs;have hz':zs.length=cap:=by simpa using hz
  intro i hi;have hs:=hcell i (by omega);have h0:=a7S hs;have hsp:x.spot=none:=by
   have h00:=hcell 0 (by omega);have:=World.cell?_spot h00;simpa [Addr.add] using this
  obtain ⟨b,o,s⟩:=x;obtain rfl:s=none:=hsp;exact ⟨_,b,o,rfl,World.block_lt_of_cell? _ _ h0,h0⟩
theorem a9O {H:Type}{enc:TypeId × Value->H}{W:World}{a:Option Addr}{len cap:Nat}{d:DataW H}{p:List MemPlace}{b:Nat}{hl:Bool}(h:DataW.Trod enc Tryd.prog W b (λ_=>true) hl 23 (.slice a len cap) d p):∀ i,i<len->∃ x,∃ g o,a=some ⟨g,o,none⟩/\g<W.heap.size/\W.cell? ⟨g,o+i,none⟩=some (.bool x):=by
 obtain ⟨fuel,hf⟩:=h;rcases open_bools Tryd.underlying23 Tryd.underlying4 (by kernel_rfl) hf with ⟨hcs,_⟩|⟨x,l,c,B,hcs,_,hl,hm,hd,hcell⟩
 ·simp [Value.cells] at hcs;obtain ⟨rfl,rfl,rfl⟩:=hcs;exact λi hi=>by omega
 ·simp [Value.cells] at hcs;obtain ⟨rfl,rfl,rfl⟩:=hcs;intro i hi;have hs:=hcell i (by omega);have h0:=a7S hs;have hsp:x.spot=none:=by
   have h00:=hcell 0 (by omega);have:=World.cell?_spot h00;simpa [Addr.add] using this
  obtain ⟨b,o,s⟩:=x;obtain rfl:s=none:=hsp;exact ⟨_,b,o,rfl,World.block_lt_of_cell? _ _ h0,h0⟩
theorem b5W (H:Type)(enc:TypeId × Value->H)(W:World)(base:Nat)(args:Array Value)(ds gs:List (DataW H))(before:List MemPlace)
  (hval:∀ (j:Nat) t v,Tryd.f7.params[j]?=some t->args[j]?=some v->Value.okWide Tryd.prog W .any base t v)
  (hW:DataW.Whole enc Tryd.prog Tryd.f7.params.toList Rows.forksSpec.vars false W args.toList ds gs before)(hZ:(DataW.weightsEach Tryd.prog (Tryd.f7.params.toList ++ (OpenSpec.ofChange Rows.forksSpec).bare.plain.varTypes Tryd.prog) (ds ++ gs)).all (·<=reachBytes)=true)(hL:laidMetH Tryd.prog Rows.forksRow.laid W) :
  ∃ M last o w' t',runNT Tryd.prog (M+1) (solo (G (Frame.enter Tryd.prog 7 args .normal) []) W) #[]=(.ended o w',t')/\runN Tryd.prog M (solo (G (Frame.enter Tryd.prog 7 args .normal) []) W)=.next last /\
   step Tryd.prog last=.ended o w'/\Go.Conc.Good Tryd.prog (λv W'=>Rows.forksSpec.post enc Tryd.prog Tryd.f7 false true false false W args v W') last o w' t':=by
 have hW':=hW;obtain ⟨p,q,hA0,hV,rfl,hfz,hnd⟩:=hW;have hA:DataW.TrodAll enc Tryd.prog W 0 (λ_=>true) true Tryd.f7.params.toList args.toList ds p:=hA0;rw [Tryd.params7] at hA hval;obtain ⟨v0,vs0,d0,ds0,p0,q0,hargs,rfl,rfl,h0,r0⟩:=trodAll_cons hA;obtain ⟨v1,vs1,d1,ds1,p1,q1,rfl,rfl,rfl,h1,r1⟩:=trodAll_cons r0;obtain ⟨v2,vs2,d2,ds2,p2,q2,rfl,rfl,rfl,h2,r2⟩:=trodAll_cons r1;obtain ⟨v3,vs3,d3,ds3,p3,q3,rfl,rfl,rfl,h3,r3⟩:=trodAll_cons r2;obtain ⟨v4,vs4,d4,ds4,p4,q4,rfl,rfl,rfl,h4,r4⟩:=trodAll_cons r3;obtain ⟨rfl,rfl,rfl⟩:=trodAll_nil r4;obtain rfl:args=#[v0,v1,v2,v3,v4]:=by cases args;simp_all
 obtain ⟨rfl,rfl⟩:=trodVars_none hV;obtain ⟨cs0,rfl,_⟩:=okWide_struct Tryd.underlying30 (hval 0 30 v0 rfl rfl);obtain ⟨a1,len1,cap1,rfl⟩:=okWide_slice Tryd.underlying23 (hval 1 23 v1 rfl rfl);obtain ⟨a2,len2,cap2,rfl⟩:=okWide_slice Tryd.underlying22 (hval 2 22 v2 rfl rfl);obtain ⟨a3,len3,cap3,rfl⟩:=okWide_slice Tryd.underlying23 (hval 3 23 v3 rfl rfl);obtain ⟨code,rfl⟩:=okWide_int Tryd.underlying3 (hval 4 3 v4 rfl rfl);have lt0:∀ x∈p0,x.block<W.heap.size:=by obtain ⟨m,hm⟩:=h0;exact DataW.trod_lt m _ _ _ hm
 have lt1:∀ x∈p1,x.block<W.heap.size:=by obtain ⟨m,hm⟩:=h1;exact DataW.trod_lt m _ _ _ hm
 have lt2:∀ x∈p2,x.block<W.heap.size:=by obtain ⟨m,hm⟩:=h2;exact DataW.trod_lt m _ _ _ hm
 have lt3:∀ x∈p3,x.block<W.heap.size:=by obtain ⟨m,hm⟩:=h3;exact DataW.trod_lt m _ _ _ hm
 have lt4:∀ x∈p4,x.block<W.heap.size:=by obtain ⟨m,hm⟩:=h4;exact DataW.trod_lt m _ _ _ hm
 obtain ⟨x,y,z,e0,hx,hy,hz⟩:∃ x y z,cs0=#[.int .i64 x,.int .i64 y,.int .i64 z]/\(-9223372036854775808<=x/\x<9223372036854775808)/\(-9223372036854775808<=y/\y<9223372036854775808)/\(-9223372036854775808<=z/\z<9223372036854775808):=by
  obtain ⟨fuel,hf⟩:=h0;obtain ⟨x,y,z,hc,hx,hy,hz⟩:=a9s hf;refine ⟨x,y,z,?_,hx,hy,hz⟩;have hc':cs0.toList=[.int .i64 x,.int .i64 y,.int .i64 z]:=hc;cases cs0
  simp_all
 subst e0;obtain ⟨ps,rfl,hps⟩:=a5F len1 (a9O h1);obtain ⟨ws,rfl,hws⟩:=a5F len2 (b8N h2);obtain ⟨fs,rfl,hfs⟩:=a5F len3 (a9O h3);clear hA0;obtain ⟨M,last,o,w',t',r1,r2,r3,r4⟩:=b3i W (c0m rfl hL) x y z hx hy hz a1 a2 a3 ps ws fs cap1 cap2 cap3 code hps hws hfs;refine ⟨M,last,o,w',t',r1,r2,r3,r4.mono λv hF=>?_⟩;obtain ⟨⟨rfl,hs,hb⟩,c1,c2,c3⟩:=hF;have bel:Below W.heap.size W w':=⟨c1,c3,c2,hs,hb⟩;exact ⟨_,_,_,[],_,[],hW',trodAll_mk1 (shut_bool Tryd.underlying4 _),(trodAll_cons_mk (Below.trod a3R (by kernel_rfl) (of_decide_eq_true (by kernel_rfl)) h0 bel lt0) (trodAll_cons_mk (Below.trod a3R (by kernel_rfl) (of_decide_eq_true (by kernel_rfl)) h1 bel lt1) (trodAll_cons_mk (Below.trod a3R (by kernel_rfl) (of_decide_eq_true (by kernel_rfl)) h2 bel lt2) (trodAll_cons_mk (Below.trod a3R (by kernel_rfl) (of_decide_eq_true (by kernel_rfl)) h3 bel lt3) (trodAll_cons_mk (Below.trod a3R (by kernel_rfl) (of_decide_eq_true (by kernel_rfl)) h4 bel lt4) trodAll_mk0))))),rfl,bel.frame _,λh=>by cases h⟩
def b5X:Array Value:=((List.range 20).flatMap λi=>[Value.bool (there i),.int .i64 ((i9 i).getD 0 0),.int .i64 ((i9 i).getD 1 0),.int .i64 ((i9 i).getD 2 0)]).toArray
def a4S (h:World):World :=
 { h with heap:=h.heap.modify 0 fun
   | .cells _ t frozen=>.cells b5X t frozen
   | o=>o }
theorem b5Y (os:Os):laidMet Tryd.prog Rows.forksRow.laid ((a4S (World.holding Tryd.prog os ⟨#[],#[],[]⟩)).forCall (λ_ _=>0) ⟨#[],#[.agg #[.int .i64 0,.int .i64 0,.int .i64 0],.slice none 0 0,.slice none 0 0,.slice none 0 0,.int .i64 0],[]⟩).memory :=
 laidMet_of_run' 8 (by kernel_rfl) (by kernel_rfl)
theorem reads (os:Os){H:Type}(enc:TypeId × Value->H):∃ places,DataW.whole enc Tryd.prog ((a4S (World.holding Tryd.prog os ⟨#[],#[],[]⟩)).forCall (λ_ _=>0) ⟨#[],#[.agg #[.int .i64 0,.int .i64 0,.int .i64 0],.slice none 0 0,.slice none 0 0,.slice none 0 0,.int .i64 0],[]⟩).memory Tryd.f7.params.toList Rows.forksSpec.vars false #[Value.agg #[.int .i64 0,.int .i64 0,.int .i64 0],.slice none 0 0,.slice none 0 0,.slice none 0 0,.int .i64 0].toList 8=some ([.agg [.lit (.int .i64 0),.lit (.int .i64 0),.lit (.int .i64 0)],.nil,.nil,.nil,.lit (.int .i64 0)],[],places) :=
 ⟨[],by kernel_rfl⟩
theorem c0w (os:Os)(started:os.Started)(H:Type)(enc:TypeId × Value->H)(F:Stop.Interp) :
  ReturnsInLeavingWide {} Tryd.checked os 7 .any ((OpenSpec.ofChange Rows.forksSpec).preRow enc Tryd.prog Tryd.f7 Rows.forksRow.domain false Rows.forksRow.laid) (((OpenSpec.ofChange Rows.forksSpec).at F).post enc Tryd.prog Tryd.f7 false true false false):=by
 obtain ⟨places,hx⟩:=reads os enc;refine a5K (C:=Tryd.checked) (s:=OpenSpec.ofChange Rows.forksSpec) own started Tryd.func7
  (witness_row_at (enc:=enc) (C:=Tryd.checked) false (a4S (World.holding Tryd.prog os ⟨#[],#[],[]⟩)) #[.agg #[.int .i64 0,.int .i64 0,.int .i64 0],.slice none 0 0,.slice none 0 0,.slice none 0 0,.int .i64 0] rfl (by kernel_rfl) (by kernel_rfl) (by kernel_rfl)
   (OpenSpec.preRow_of_cond 8 hx (by kernel_rfl) (λk hk=>by cases hk) (by kernel_rfl) (b5Y os))) ?_
 intro W base args ds gs before hval hW hZ hL;exact b5W H enc W base args ds gs before hval hW hZ hL
theorem c2c:Rows.ForksSaid :=
 OpenClaim.holds_of_wide_leaving 7 Tryd.f7 rfl rfl rfl rfl rfl rfl rfl ⟨rfl,rfl,rfl,rfl,rfl⟩ rfl rfl rfl rfl rfl (by kernel_rfl) Tryd.func7 (by kernel_rfl)
  (of_decide_eq_true (by kernel_rfl)) (by unfold Func.isWrapper;first|(rw [if_pos (by decide +kernel)];kernel_rfl)|(rw [if_neg (by decide +kernel)];exact ⟨rfl,rfl⟩))
  (λos started H enc _=>by rw [OpenClaim.pre_eq_preRow];exact c0w os started H enc (λ_ _ _=>0))
theorem plain (f:FuncId)(fn:Func)(hf:Tryd.pinned.checked.prog.funcNamed "burrow/burrowlaw.Forks" = some f)(hfn:Tryd.pinned.checked.prog.funcs[f]?=some fn) :
  Rows.forksCard.stood.looks=Tryd.pinned.checked.prog.looks []/\∀ (j:Nat) t,fn.params[j]?=some t->Tryd.pinned.checked.prog.wantsStandIn t=false:=by
 obtain rfl:f=7:=Option.some.inj ((show Tryd.prog.funcNamed "burrow/burrowlaw.Forks" = some 7 by kernel_rfl).symm.trans hf) |>.symm;obtain rfl:fn=Tryd.f7:=(Option.some.inj (Tryd.func7.symm.trans hfn)).symm;refine ⟨by kernel_rfl,λj t ht=>?_⟩;rw [Tryd.params7] at ht;have ht':=Array.mem_of_getElem? ht;simp at ht';rcases ht' with rfl|rfl|rfl|rfl|rfl
 ·exact (show Tryd.prog.wantsStandIn 30=false by kernel_rfl)
 ·exact (show Tryd.prog.wantsStandIn 23=false by kernel_rfl)
 ·exact (show Tryd.prog.wantsStandIn 22=false by kernel_rfl)
 ·exact (show Tryd.prog.wantsStandIn 23=false by kernel_rfl)
 ·exact (show Tryd.prog.wantsStandIn 3=false by kernel_rfl)
theorem card:Rows.ForksCardSaid :=
 b3f .later _ _ _ _ c2c (by kernel_rfl) forks_row_tie rfl ⟨rfl,rfl⟩ (by kernel_rfl) rfl plain (by kernel_rfl)
#print axioms card
end Go.Proofs.YtcgabodkegcpgaaDoor.forks
