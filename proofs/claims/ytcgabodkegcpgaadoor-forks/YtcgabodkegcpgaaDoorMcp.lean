/- Begin, whole. -/
import Derived.Test.YtcgabodkegcpgaaDoorMcn
import Derived.Conc.Beside
import Derived.Conc.LeavingOf
import Derived.Test.YtcgabodkegcpgaaDoorRpp
import Derived.Deep.RegionLaw
import Derived.Test.YtcgabodkegcpgaaDoorMcj
import Derived.Laws.CopyRow
import Derived.Test.YtcgabodkegcpgaaDoorSao
set_option linter.unusedVariables false
set_option linter.unusedSimpArgs false
set_option maxHeartbeats 20000000
set_option maxRecDepth 100000
namespace Go.Proofs.YtcgabodkegcpgaaDoor
open Go.Conc Go.RowKit
open Br (X OpD KO SO SP sfO Lk Fit Must DL Liv Clear)
section
variable {kb:Kb} {l:List OpD} {K:Ker} {L:Nat->Option Lv} {r:Nat} {Inb:Nat->Option Seat} {nG:Nat} {w w':World} {v:Lv} {Final:Machine->Trace->Prop} {b:Lb} {B0:Nat} {U:Nat->Option OpD} {V:Nat->Value} {N:Nat->Nat} {Xs:Nat->List Value}
theorem b9d (co:Co kb l K L r Inb nG w){n:Nat}(hn:K.nS=n)(lm:LibM kb l L w b n B0 U V N Xs)(h0:0<nG)(s kd A B:Int){bx:Nat}(hbx:Mn kb L w bx)(hX:w.heap[bx]?=some (.cells #[.int .i64 kd,.int .i64 A,.int .i64 B] 38 (0,0)))(fr:Frame)(cs:List Frame)
  (hcall:(kd<1\/7<kd)->∀ w',Grown w w'->X Tryd.prog Final l Inb nG 0 (G (fr.finish (.int .i64 2)) cs) w')
  (hno:1<=kd->kd<=7->(decide (0<=s) && decide (s<(n:Int)))=false->∀ w',Grown w w'->X Tryd.prog Final l Inb nG 0 (G (fr.finish (.int .i64 3)) cs) w')
  (hbusy:1<=kd->kd<=7->∀ (p:Nat) o,s=p->p<n->U p=some o->∀ w',Grown w w'->X Tryd.prog Final l Inb nG 0 (G (fr.finish (.int .i64 14)) cs) w')
  (hbeg:1<=kd->kd<=7->∀ p:Nat,s=p->p<n->U p=none->∀ w' (C:Ctx) H Inb',C.slot=(p:Int)->C.kd=kd->C.A=A->C.B=B->OnK kb C->C.o.gid=nG->Co kb (C.o::l) K (ConcN.upd L nG (some ⟨C,A8 C p,[C.o.bo],H,[H6 C.o,bot]⟩)) r Inb' (nG+1) w'->(∀ k,Mn kb L w k->k≠b.bu->Mn kb (ConcN.upd L nG (some ⟨C,A8 C p,[C.o.bo],H,[H6 C.o,bot]⟩)) w' k/\w'.heap[k]?=w.heap[k]?)->LibM kb (C.o::l) (ConcN.upd L nG (some ⟨C,A8 C p,[C.o.bo],H,[H6 C.o,bot]⟩)) w' b n B0 (a0W U p C.o) V N Xs->X Tryd.prog Final (C.o::l) Inb' (nG+1) 0 (G (fr.finish (.int .i64 0)) cs) w')(d0:Nat) :
  Must Tryd.prog true (DL true (sfO l)) (X Tryd.prog Final l Inb nG 0) (G ((base 17).at ⟨#[.pointer (some ⟨b.bl,0,none⟩),.int .i64 s,.agg #[.int .i64 kd,.int .i64 A,.int .i64 B],undef,undef,.pointer (some ⟨bx,0,none⟩),.int .i64 0,undef,undef,undef,undef,undef,undef,undef,undef,undef,undef,undef,undef,undef,undef,undef,undef,undef,undef,undef,undef,undef,undef,undef,undef,undef,undef,undef,undef,undef,undef,undef,undef,undef],[]⟩ [.code a8K]) (fr::cs)) (w.at d0):=by
 subst hn;have hc:=co.env.fit.clear;have x0:w.cell? ⟨bx,0,none⟩=some (.int .i64 kd):=by simp only [World.cell?,hX];rfl
 have self:∀ d,Grown w (w.at d):=λd=>⟨Nat.le_refl _,λ_ _=>rfl,hc⟩
 have tell:1<=kd->kd<=7->∀ p:Nat,s=p->p<K.nS->U p=none->∀ W,Grown w W->∀ d,Must Tryd.prog true (DL true (sfO l)) (X Tryd.prog Final l Inb nG 0) (G ((base 17).at ⟨#[.pointer (some ⟨b.bl,0,none⟩),.int .i64 p,.agg #[.int .i64 kd,.int .i64 A,.int .i64 B],undef,undef,.pointer (some ⟨bx,0,none⟩),.int .i64 0,.pointer (some ⟨bx,0,none⟩),.int .i64 kd,.bool false,.bool false,.pointer (some ⟨bx,0,none⟩),.int .i64 kd,.bool false,.bool false,.pointer (some ⟨b.bl,0,none⟩),.int .i64 p,.bool true,.bool false,.pointer (some ⟨b.bl,0,none⟩),.pointer (some ⟨b.bl,0,none⟩),.pointer (some ⟨b.bl,1,none⟩),.slice (some ⟨b.bu,0,none⟩) K.nS K.nS,.int .i64 p,.pointer (some ⟨b.bu,p,none⟩),.pointer none,.bool false,undef,undef,undef,undef,undef,undef,undef,undef,undef,undef,undef,undef,undef],[]⟩ [.code (.region 7 A6 true),.code b2P]) (fr::cs)) (W.at d):=λk1 k7 p hs hp hU W hW d =>
  b6v (co.grown hW) (lm.grown hW) h0 hp hU kd A B (hbx.grow hW.size) (by rw [hW.old _ hbx.lt];exact hX) fr cs (λw' C H Inb' c1 c2 c3 c4 c5 c6 c7 c8 c9=>hbeg k1 k7 p hs hp hU w' C H Inb' c1 c2 c3 c4 c5 c6 c7 (λk hM hk=>by
   obtain ⟨m1,m2⟩:=c8 k (hM.grow hW.size) hk
   exact ⟨m1,m2.trans (hW.old k hM.lt)⟩) c9) d
 clear hbeg;unfold a8K;unfold b2P A6 at tell;simp only [Tryd.f17,pO] at *
 by_cases h1:kd<1
 ·have hx:=λd=>hcall (.inl h1) (w.at d) (self d);clear hcall hno hbusy tell;refine Br.b8 (λd=>?_) _;refine Br.b8 (λd=>?_) _;refine Br.b9 (λd=>?_) _;simp only [Br.rz,Br.ix,Nat.reduceAdd];refine Br.mo rfl rfl λd K' hK=>?_;go_simp;refine hK _ _ ⟨rfl,?_⟩;clear hK K';refine Br.mo rfl rfl λd K' hK=>?_;have e0:(w.at d).cell? ⟨bx,0,none⟩=some (.int .i64 kd):=x0;go_simp;refine hK _ _ ⟨rfl,?_⟩;clear hK K';(iterate 2(refine Br.mo rfl rfl λd K' hK=>?_;go_simp;refine hK _ _ ⟨rfl,?_⟩;clear hK K'));refine Br.mc rfl (λu=>stepG_unwanted rfl rfl) (λd=>?_) _;simp only [Act.put]
  try go_simp
  refine Br.mc rfl (λu=>stepG_unwanted rfl rfl) (λd=>?_) _;simp only [Act.put]
  try go_simp
  refine Br.mc rfl (λu=>stepG_unwanted rfl rfl) (λd=>?_) _;simp only [Act.put]
  try go_simp
  refine Br.mo rfl rfl λd K' hK=>?_;go_simp;refine hK _ _ ⟨rfl,?_⟩;clear hK K';refine Br.a9 (λd=>?_) _;refine Br.mc rfl (λu=>stepG_cond (t:=true) rfl) (λd=>?_) _;simp only [if_true,if_false,Bool.false_eq_true,↓reduceIte];refine Br.b8 (λd=>?_) _;refine Br.b9 (λd=>?_) _;simp only [Br.rz,Br.ix,Nat.reduceAdd];refine Br.mo rfl rfl λd K' hK=>?_;go_simp;refine hK _ _ ⟨rfl,?_⟩;clear hK K';refine Br.a9 (λd=>?_) _;refine Br.q8 (λd=>?_) _;exact Br.m8 (v:=.int .i64 2) rfl rfl Tryd.func17 (resultsC_tmp (t:=6) rfl _) (w:=w) (λd=>.stop (hx d)) _
 by_cases h7:7<kd
 ·have hx:=λd=>hcall (.inr h7) (w.at d) (self d);clear hcall hno hbusy tell;refine Br.b8 (λd=>?_) _;refine Br.b8 (λd=>?_) _;refine Br.b9 (λd=>?_) _;simp only [Br.rz,Br.ix,Nat.reduceAdd];refine Br.mo rfl rfl λd K' hK=>?_;go_simp;refine hK _ _ ⟨rfl,?_⟩;clear hK K';refine Br.mo rfl rfl λd K' hK=>?_;have e0:(w.at d).cell? ⟨bx,0,none⟩=some (.int .i64 kd):=x0;go_simp;refine hK _ _ ⟨rfl,?_⟩;clear hK K';(iterate 3(refine Br.mo rfl rfl λd K' hK=>?_;go_simp;refine hK _ _ ⟨rfl,?_⟩;clear hK K'));refine Br.mo rfl rfl λd K' hK=>?_;have e0:(w.at d).cell? ⟨bx,0,none⟩=some (.int .i64 kd):=x0;go_simp;refine hK _ _ ⟨rfl,?_⟩;clear hK K';(iterate 2(refine Br.mo rfl rfl λd K' hK=>?_;go_simp;refine hK _ _ ⟨rfl,?_⟩;clear hK K'));refine Br.a9 (λd=>?_) _;refine Br.mc rfl (λu=>stepG_cond (t:=true) rfl) (λd=>?_) _;simp only [if_true,if_false,Bool.false_eq_true,↓reduceIte];refine Br.b8 (λd=>?_) _;refine Br.b9 (λd=>?_) _;simp only [Br.rz,Br.ix,Nat.reduceAdd];refine Br.mo rfl rfl λd K' hK=>?_;go_simp;refine hK _ _ ⟨rfl,?_⟩;clear hK K';refine Br.a9 (λd=>?_) _;refine Br.q8 (λd=>?_) _;exact Br.m8 (v:=.int .i64 2) rfl rfl Tryd.func17 (resultsC_tmp (t:=6) rfl _) (w:=w) (λd=>.stop (hx d)) _
 have k1:1<=kd:=by omega
 have k7:kd<=7:=by omega
 have tell:=tell k1 k7;have hno:=hno k1 k7;have hbusy:=hbusy k1 k7;clear hcall k1 k7;refine Br.b8 (λd=>?_) _;refine Br.b8 (λd=>?_) _;refine Br.b9 (λd=>?_) _;simp only [Br.rz,Br.ix,Nat.reduceAdd];refine Br.mo rfl rfl λd K' hK=>?_;go_simp;refine hK _ _ ⟨rfl,?_⟩;clear hK K';refine Br.mo rfl rfl λd K' hK=>?_;have e0:(w.at d).cell? ⟨bx,0,none⟩=some (.int .i64 kd):=x0;go_simp;refine hK _ _ ⟨rfl,?_⟩;clear hK K';(iterate 3(refine Br.mo rfl rfl λd K' hK=>?_;go_simp;refine hK _ _ ⟨rfl,?_⟩;clear hK K'));refine Br.mo rfl rfl λd K' hK=>?_;have e0:(w.at d).cell? ⟨bx,0,none⟩=some (.int .i64 kd):=x0;go_simp;refine hK _ _ ⟨rfl,?_⟩;clear hK K';(iterate 2(refine Br.mo rfl rfl λd K' hK=>?_;go_simp;refine hK _ _ ⟨rfl,?_⟩;clear hK K'));refine Br.a9 (λd=>?_) _;refine Br.mc rfl (λu=>stepG_cond (t:=false) rfl) (λd=>?_) _;simp only [if_true,if_false,Bool.false_eq_true,↓reduceIte];refine Br.l9 (λd=>?_) _;refine Br.b8 (λd=>?_) _;refine Br.b8 (λd=>?_) _;refine Br.b9 (λd=>?_) _;simp only [Br.rz,Br.ix,Nat.reduceAdd];(iterate 2(refine Br.mo rfl rfl λd K' hK=>?_;go_simp;refine hK _ _ ⟨rfl,?_⟩;clear hK K'));refine Br.mc rfl (λu=>k6 rfl rfl (by decide) rfl Tryd.func40 rfl rfl (vs:=#[.pointer (some ⟨b.bl,0,none⟩),.int .i64 s]) (by simp [Act.eval]) u) (λd=>?_) _;refine (a2i co lm.m s _ _ d).then ?_;rintro g W ⟨rfl,hW⟩;have hc:=hW.clear;have lmW:=lm.m.grown hW;rw [Frame.finish_at,show W=W.at W.drawn from rfl];generalize W.drawn=dw
 cases hb:(decide (0<=s) && decide (s<(K.nS:Int))) with
 | false =>
  have hx:=λd=>hno hb (W.at d) (hW.at d);clear hno hbusy tell lmW;simp only [Act.put];go_simp;refine Br.mo rfl rfl λd K' hK=>?_;go_simp;refine hK _ _ ⟨rfl,?_⟩;clear hK K';refine Br.a9 (λd=>?_) _;refine Br.mc rfl (λu=>stepG_cond (t:=true) rfl) (λd=>?_) _;simp only [if_true,if_false,Bool.false_eq_true,↓reduceIte];refine Br.b8 (λd=>?_) _;refine Br.b9 (λd=>?_) _;simp only [Br.rz,Br.ix,Nat.reduceAdd];refine Br.mo rfl rfl λd K' hK=>?_;go_simp;refine hK _ _ ⟨rfl,?_⟩;clear hK K';refine Br.a9 (λd=>?_) _;refine Br.q8 (λd=>?_) _;exact Br.m8 (v:=.int .i64 3) rfl rfl Tryd.func17 (resultsC_tmp (t:=6) rfl _) (w:=W) (λd=>.stop (hx d)) _
 | true =>
  simp only [Bool.and_eq_true,decide_eq_true_eq] at hb;obtain ⟨p,rfl⟩:∃ p:Nat,s=p:=⟨s.toNat,by omega⟩;have hp:p<K.nS:=by omega
  have i0:(0:Int)<=(p:Int):=by omega
  have i1:(p:Int)<(K.nS:Int):=by omega
  have k1:=lmW.is.k1;have cu:=lmW.is.u.cell hp
  cases hU:U p with
  | none =>
   have tl:=λd=>tell p rfl hp hU W hW d;rw [hU] at cu;have cu':W.cell? ⟨b.bu,p,none⟩=some (.pointer none):=cu;clear hno hbusy tell cu lmW;simp only [Act.put];go_simp;refine Br.mo rfl rfl λd K' hK=>?_;go_simp;refine hK _ _ ⟨rfl,?_⟩;clear hK K';refine Br.a9 (λd=>?_) _;refine Br.mc rfl (λu=>stepG_cond (t:=false) rfl) (λd=>?_) _;simp only [if_true,if_false,Bool.false_eq_true,↓reduceIte];refine Br.l9 (λd=>?_) _;refine Br.b8 (λd=>?_) _;refine Br.b8 (λd=>?_) _;refine Br.b9 (λd=>?_) _;simp only [Br.rz,Br.ix,Nat.reduceAdd];(iterate 3(refine Br.mo rfl rfl λd K' hK=>?_;go_simp;refine hK _ _ ⟨rfl,?_⟩;clear hK K'));refine Br.mo rfl rfl λd K' hK=>?_;have e1:(W.at d).cell? ⟨b.bl,1,none⟩=some (.slice (some ⟨b.bu,0,none⟩) K.nS K.nS):=k1;go_simp;refine hK _ _ ⟨rfl,?_⟩;clear hK K';(iterate 2(refine Br.mo rfl rfl λd K' hK=>?_;go_simp;refine hK _ _ ⟨rfl,?_⟩;clear hK K'));refine Br.mo rfl rfl λd K' hK=>?_;have e2:(W.at d).cell? ⟨b.bu,p,none⟩=some (.pointer none):=cu';go_simp;refine hK _ _ ⟨rfl,?_⟩;clear hK K';refine Br.mo rfl rfl λd K' hK=>?_;go_simp;refine hK _ _ ⟨rfl,?_⟩;clear hK K';refine Br.a9 (λd=>?_) _;refine Br.mc rfl (λu=>stepG_cond (t:=false) rfl) (λd=>?_) _;simp only [if_true,if_false,Bool.false_eq_true,↓reduceIte];refine Br.l9 (λd=>?_) _;refine Br.b8 (λd=>?_) _;exact tl _
  | some o =>
   have hx:=λd=>hbusy p o rfl hp hU (W.at d) (hW.at d);rw [hU] at cu;have cu':W.cell? ⟨b.bu,p,none⟩=some (.pointer (some ⟨o.bo,0,none⟩)):=cu;clear hno hbusy tell cu lmW;simp only [Act.put];go_simp;refine Br.mo rfl rfl λd K' hK=>?_;go_simp;refine hK _ _ ⟨rfl,?_⟩;clear hK K';refine Br.a9 (λd=>?_) _;refine Br.mc rfl (λu=>stepG_cond (t:=false) rfl) (λd=>?_) _;simp only [if_true,if_false,Bool.false_eq_true,↓reduceIte];refine Br.l9 (λd=>?_) _;refine Br.b8 (λd=>?_) _;refine Br.b8 (λd=>?_) _;refine Br.b9 (λd=>?_) _;simp only [Br.rz,Br.ix,Nat.reduceAdd];(iterate 3(refine Br.mo rfl rfl λd K' hK=>?_;go_simp;refine hK _ _ ⟨rfl,?_⟩;clear hK K'));refine Br.mo rfl rfl λd K' hK=>?_;have e1:(W.at d).cell? ⟨b.bl,1,none⟩=some (.slice (some ⟨b.bu,0,none⟩) K.nS K.nS):=k1;go_simp;refine hK _ _ ⟨rfl,?_⟩;clear hK K';(iterate 2(refine Br.mo rfl rfl λd K' hK=>?_;go_simp;refine hK _ _ ⟨rfl,?_⟩;clear hK K'));refine Br.mo rfl rfl λd K' hK=>?_;have e2:(W.at d).cell? ⟨b.bu,p,none⟩=some (.pointer (some ⟨o.bo,0,none⟩)):=cu';go_simp;refine hK _ _ ⟨rfl,?_⟩;clear hK K';refine Br.mo rfl rfl λd K' hK=>?_;go_simp;refine hK _ _ ⟨rfl,?_⟩;clear hK K';refine Br.a9 (λd=>?_) _;refine Br.mc rfl (λu=>stepG_cond (t:=true) rfl) (λd=>?_) _;simp only [if_true,if_false,Bool.false_eq_true,↓reduceIte];refine Br.b8 (λd=>?_) _;refine Br.b9 (λd=>?_) _;simp only [Br.rz,Br.ix,Nat.reduceAdd];refine Br.mo rfl rfl λd K' hK=>?_;go_simp;refine hK _ _ ⟨rfl,?_⟩;clear hK K';refine Br.a9 (λd=>?_) _;refine Br.q8 (λd=>?_) _;exact Br.m8 (v:=.int .i64 14) rfl rfl Tryd.func17 (resultsC_tmp (t:=6) rfl _) (w:=W) (λd=>.stop (hx d)) _
noncomputable def a2L:Code:=(Tryd.f17.body).getD .skip
theorem a9W (k0 x y:Value):Frame.enter Tryd.prog 17 #[k0,x,y] .normal=(base 17).at ⟨#[k0,x,y,undef,undef,undef,undef,undef,undef,undef,undef,undef,undef,undef,undef,undef,undef,undef,undef,undef,undef,undef,undef,undef,undef,undef,undef,undef,undef,undef,undef,undef,undef,undef,undef,undef,undef,undef,undef,undef],[]⟩ [.code a2L]:=by
 rw [enter_at (c:=a2L) _ Tryd.func17 rfl];refine congrArg (λt=>(base 17).at ⟨t,[]⟩ [.code a2L]) ?_
 kernel_rfl
theorem b1i (co:Co kb l K L r Inb nG w){n:Nat}(hn:K.nS=n)(lm:LibM kb l L w b n B0 U V N Xs)(h0:0<nG)(s kd A B:Int)(fr:Frame)(cs:List Frame)
  (hcall:(kd<1\/7<kd)->∀ w',Grown w w'->X Tryd.prog Final l Inb nG 0 (G (fr.finish (.int .i64 2)) cs) w')
  (hno:1<=kd->kd<=7->(decide (0<=s) && decide (s<(n:Int)))=false->∀ w',Grown w w'->X Tryd.prog Final l Inb nG 0 (G (fr.finish (.int .i64 3)) cs) w')
  (hbusy:1<=kd->kd<=7->∀ (p:Nat) o,s=p->p<n->U p=some o->∀ w',Grown w w'->X Tryd.prog Final l Inb nG 0 (G (fr.finish (.int .i64 14)) cs) w')
  (hbeg:1<=kd->kd<=7->∀ p:Nat,s=p->p<n->U p=none->∀ w' (C:Ctx) H Inb',C.slot=(p:Int)->C.kd=kd->C.A=A->C.B=B->OnK kb C->C.o.gid=nG->Co kb (C.o::l) K (ConcN.upd L nG (some ⟨C,A8 C p,[C.o.bo],H,[H6 C.o,bot]⟩)) r Inb' (nG+1) w'->(∀ k,Mn kb L w k->k≠b.bu->Mn kb (ConcN.upd L nG (some ⟨C,A8 C p,[C.o.bo],H,[H6 C.o,bot]⟩)) w' k/\w'.heap[k]?=w.heap[k]?)->LibM kb (C.o::l) (ConcN.upd L nG (some ⟨C,A8 C p,[C.o.bo],H,[H6 C.o,bot]⟩)) w' b n B0 (a0W U p C.o) V N Xs->X Tryd.prog Final (C.o::l) Inb' (nG+1) 0 (G (fr.finish (.int .i64 0)) cs) w') :
  X Tryd.prog Final l Inb nG 0 (G (Frame.enter Tryd.prog 17 #[.pointer (some ⟨b.bl,0,none⟩),.int .i64 s,.agg #[.int .i64 kd,.int .i64 A,.int .i64 B]] .normal) (fr::cs)) w:=by
 have rest:∀ W,Grown w W->W.heap[w.heap.size]?=some (.cells #[.int .i64 kd,.int .i64 A,.int .i64 B] 38 (0,0))->W.heap.size=w.heap.size+1->∀ d,Must Tryd.prog true (DL true (sfO l)) (X Tryd.prog Final l Inb nG 0) (G ((base 17).at ⟨#[.pointer (some ⟨b.bl,0,none⟩),.int .i64 s,.agg #[.int .i64 kd,.int .i64 A,.int .i64 B],undef,undef,.pointer (some ⟨w.heap.size,0,none⟩),.int .i64 0,undef,undef,undef,undef,undef,undef,undef,undef,undef,undef,undef,undef,undef,undef,undef,undef,undef,undef,undef,undef,undef,undef,undef,undef,undef,undef,undef,undef,undef,undef,undef,undef,undef],[]⟩ [.code a8K]) (fr::cs)) (W.at d):=λW hW hX hz d =>
  b9d (bx:=w.heap.size) (co.grown hW) hn (lm.grown hW) h0 s kd A B (co.new (w':=W) (Nat.le_refl _) (by omega)).mn hX fr cs (λh w' hg=>hcall h w' (hW.trans hg)) (λh1 h2 h w' hg=>hno h1 h2 h w' (hW.trans hg)) (λh1 h2 p o hs hp hU w' hg=>hbusy h1 h2 p o hs hp hU w' (hW.trans hg)) (λh1 h2 p hs hp hU w' C H Inb' c1 c2 c3 c4 c5 c6 c7 c8 c9=>hbeg h1 h2 p hs hp hU w' C H Inb' c1 c2 c3 c4 c5 c6 c7 (λk hM hk=>by
   obtain ⟨m1,m2⟩:=c8 k (hM.grow hW.size) hk
   exact ⟨m1,m2.trans (hW.old k hM.lt)⟩) c9) d
 clear hcall hno hbusy hbeg;rw [a9W];unfold a8K at rest;simp only [a2L,Tryd.f17,Option.getD_some] at *;refine Br.a0m (st:=true) ?_;show Must Tryd.prog true (DL true (sfO l)) _ _ (w.at w.drawn);generalize w.drawn=dz;have hc:=co.env.fit.clear;refine Br.b8 (λd=>?_) _;refine Br.b9 (λd=>?_) _;simp only [Br.rz,Br.ix,Nat.reduceAdd];refine Br.t8 rfl rfl (by decide) (λd K' hK=>?_) _;go_simp;refine hK _ _ ⟨Br.L7 (λe he=>?_),?_⟩
 ·have hm:=mem_listed he;simp [go_sem] at hm
 clear hK K';refine a6k trivial hc (λW hg hX hz d=>?_);have hc2:=hg.clear;refine Br.mo rfl rfl λd K' hK=>?_;go_simp;refine hK _ _ ⟨rfl,?_⟩;clear hK K';refine Br.a9 (λd=>?_) _;exact rest W hg hX hz _
end
section
variable {kb:Kb} {l:List OpD} {K:Ker} {L:Nat->Option Lv} {r:Nat} {Inb:Nat->Option Seat} {nG:Nat} {w w':World} {v:Lv} {Final:Machine->Trace->Prop} {b:Lb} {n B0:Nat} {U:Nat->Option OpD} {V:Nat->Value} {N:Nat->Nat} {Xs:Nat->List Value}
end
end Go.Proofs.YtcgabodkegcpgaaDoor
namespace Go.Proofs.YtcgabodkegcpgaaDoor
open Go.Conc Go.RowKit
open Br (OpD KO SO SP sfO Lk Fit Must DL Liv Clear X)
def b1j (P:Program)(Post:Value->World->Prop)(m:Machine)(T:Trace):Prop :=
 ∃ N last o w' t',runNT P (N+1) m T=(.ended o w',t')/\runN P N m=.next last/\step P last=.ended o w'/\Go.Conc.Good P (λv w'=>Post v w'/\Br.a5v m.world w') last o w' t'
section
variable {P:Program} {Post:Value->World->Prop} {l:List OpD} {Inb:Nat->Option Seat} {n:Nat} {w:World}
theorem c1J {a:Goroutine}{v:Value}(hrun:a.status=.running)(hst:∀ d,stepG P true a (w.at d)=.ended (.done v) (w.at d) #[])(hp:∀ d,Post v (w.at d))(hI:∀ i,i≠0->Inb i=none):X P (b1j P Post) l Inb n 0 a w:=by
 rintro m T ⟨gs,sl,q,Mem,rfl,hn,hg,hM,hdis,C⟩;obtain ⟨L,Pp⟩:=ring_end C hM hI
 obtain ⟨N,last,o,w',t',e1,e2,e3,e4⟩:=beside_ends (P:=P) (Post:=λv w'=>Post v w'/\Br.a5v w w') (D:=λ_ _ _=>False) (sl:=sl) (n:=0) (λ_ _ _ h=>h.elim) hg L Pp (λw₁ h₁=>by
  obtain ⟨d,rfl⟩:=h₁
  exact ⟨hrun,v,#[],hst d,by simp,hp d,rfl,rfl,rfl⟩)
 exact ⟨0,_,_,rfl,⟨N,last,o,w',t',e1,e2,e3,e4⟩,rfl,rfl,rfl⟩
theorem b6w {g:Goroutine}{W:World}(h:X P (b1j P Post) [] (λ_=>none) 1 0 g W) :
  ∃ N last o w' t',runNT P (N+1) (solo g W) #[]=(.ended o w',t')/\runN P N (solo g W)=.next last/\step P last=.ended o w'/\Go.Conc.Good P (λv w'=>Post v w'/\Br.a5v W w') last o w' t':=by
 obtain ⟨N,m',T',hr,⟨M,last,o,w',t',e1,e2,e3,e4⟩,hcm⟩:=h (solo g W) #[] ⟨#[g],none,λ_=>0,λi=>i=0,solo_eq_crowd _ _,rfl,rfl,rfl,λi s c hi=>(by cases hi),
  ring_begin (λx hx=>by
   rcases hx with ⟨o,ho,_⟩|⟨_,_,h,_⟩
   ·cases ho
   ·exact h.elim) (leavers_one _ _) (past_nil.mono (Nat.zero_le _)) (λo ho=>by cases ho)⟩
 refine ⟨N+M,last,o,w',t',?_,?_,e3,e4.mono λv hv=>⟨hv.1,Br.a5v.trans hcm hv.2⟩⟩
 ·rw [Nat.add_assoc,runNT_add,hr];exact e1
 ·rw [runN_add,← runNT_fst P _ _ #[],hr];exact e2
end
end Go.Proofs.YtcgabodkegcpgaaDoor
namespace Go.Proofs.YtcgabodkegcpgaaDoor
open Go.RowKit
attribute [local go_sem ↓] Go.wp_at_zero Go.wp_at_succ
theorem c1K:(Tryd.prog.info? 106).map (λi=>(i.zero,i.size,i.bytes))=some (some (.pointer none),1,8):=by kernel_rfl
theorem c1L:(Tryd.prog.info? 65).map (λi=>(i.zero,i.size,i.bytes))=some (some (.slice none 0 0),1,24):=by kernel_rfl
theorem c1M (n:Nat)(hn:n<=32)(w:World):∃ C:Array Value,C.size=n/\(∀ j,j<n->C[j]?=some (.pointer none))/\(Instr.makeSlice 102 (.int .i64 n) (.int .i64 n)).run Tryd.prog w=.ok (.slice (some ⟨w.heap.size,0,none⟩) n n) (w.alloc (.cells C 106)):=by
 have hinfo:=c1K
 cases hq:Tryd.prog.info? 106 with
 | none=>rw [hq] at hinfo;cases hinfo
 | some i =>
  rw [hq] at hinfo;simp only [Option.map_some,Option.some.injEq,Prod.mk.injEq] at hinfo;obtain ⟨hz,hs,hb⟩:=hinfo;have:=run_make (P:=Tryd.prog) w 102 106 i _ Tryd.underlying102 hq hz .i64 .i64 n n (by omega) (by omega) (by rw [hb];omega) (by omega);rw [hs,Nat.mul_one] at this;refine ⟨_,size_madeCells _ _,λj hj=>?_,this⟩;unfold madeCells;rw [Array.getElem?_map,Array.getElem?_range,if_pos (by omega)];simp [Value.cells,Nat.mod_one]
theorem c1N (n:Nat)(hn:n<=32)(w:World):∃ C:Array Value,C.size=n/\(∀ j,j<n->C[j]?=some (.slice none 0 0))/\(Instr.makeSlice 64 (.int .i64 n) (.int .i64 n)).run Tryd.prog w=.ok (.slice (some ⟨w.heap.size,0,none⟩) n n) (w.alloc (.cells C 65)):=by
 have hinfo:=c1L
 cases hq:Tryd.prog.info? 65 with
 | none=>rw [hq] at hinfo;cases hinfo
 | some i =>
  rw [hq] at hinfo;simp only [Option.map_some,Option.some.injEq,Prod.mk.injEq] at hinfo;obtain ⟨hz,hs,hb⟩:=hinfo;have:=run_make (P:=Tryd.prog) w 64 65 i _ Tryd.underlying64 hq hz .i64 .i64 n n (by omega) (by omega) (by rw [hb];omega) (by omega);rw [hs,Nat.mul_one] at this;refine ⟨_,size_madeCells _ _,λj hj=>?_,this⟩;unfold madeCells;rw [Array.getElem?_map,Array.getElem?_range,if_pos (by omega)];simp [Value.cells,Nat.mod_one]
end Go.Proofs.YtcgabodkegcpgaaDoor
namespace Go.Proofs.YtcgabodkegcpgaaDoor
open Go.Conc Go.RowKit
attribute [local go_sem ↓] Go.wp_at_zero Go.wp_at_succ
noncomputable def U2:Array Oper :=
 match Tryd.f16.body with
 | some (.seq _ (.seq _ (.seq (.region _ ops _) _)))=>ops
 | _=>#[]
theorem a2j:Br.a0R U2=true:=by kernel_rfl
def nlA (bk n c2 c4:Nat):Array Value:=#[.pointer (some ⟨bk,0,none⟩),.slice (some ⟨c2,0,none⟩) n n,.slice (some ⟨c4,0,none⟩) n n]
def nlV (bk n c2 c4 c6:Nat):Nat->Value
 | 0=>.pointer (some ⟨bk,0,none⟩)|1=>.int .i64 n|2=>.slice (some ⟨c2,0,none⟩) n n|3=>.int .i64 n|4=>.slice (some ⟨c4,0,none⟩) n n
 | 5=>.agg (nlA bk n c2 c4)|6=>.pointer (some ⟨c6,0,none⟩)|7=>.pointer (some ⟨c6,0,none⟩)|_=>undef
structure NlI (v:World) (bk n c2 c4 c6:Nat) (listed:Array Bool) (w:World):Prop where
 bel:Below v.heap.size v w
 l2:listed.getD 2 false=true->v.heap.size<=c2/\X2 w c2 n (λ_=>.pointer none)
 l4:listed.getD 4 false=true->v.heap.size<=c4/\X2 w c4 n (λ_=>.slice none 0 0)
 l24:listed.getD 2 false=true->listed.getD 4 false=true->c2≠c4
 l5:listed.getD 5 false=true->listed.getD 2 false=true/\listed.getD 4 false=true
 l6:listed.getD 6 false=true->listed.getD 5 false=true/\v.heap.size<=c6/\w.heap[c6]?=some (.cells (nlA bk n c2 c4) 104 (0,0))/\c2<c6/\c4<c6
 l7:listed.getD 7 false=true->listed.getD 6 false=true
theorem a2M {w:World}{b n:Nat}{f:Nat->Value}(h:X2 w b n f)(o:Obj):X2 (w.alloc o) b n f:=h.of (Below.heap_alloc w o b h.lt)
theorem NlI.pure {v w:World}{bk n c2 c4 c6:Nat}{listed:Array Bool}(h:NlI v bk n c2 c4 c6 listed w){q:Nat}(h2:q≠2)(h4:q≠4)(h5:q≠5)(h6:q≠6)(h7:q≠7):NlI v bk n c2 c4 c6 (listed.setIfInBounds q true) w :=
 ⟨h.bel,by rw [g8 h2];exact h.l2,by rw [g8 h4];exact h.l4,by rw [g8 h2,g8 h4];exact h.l24,by rw [g8 h5,g8 h2,g8 h4];exact h.l5,by rw [g8 h6,g8 h5];exact h.l6,by rw [g8 h7,g8 h6];exact h.l7⟩
theorem b3G {bk n:Nat}(hn:n<=32){tb:Array Value}(hsz:tb.size=15)(b0:tb[0]?=some (.pointer (some ⟨bk,0,none⟩)))(b3:tb[3]?=some (.int .i64 n)){v:World}{Q:Exit->Act->World->Prop}
  (hfin:∀ c2 c4 c6 w,NlI v bk n c2 c4 c6 (Array.replicate 8 true) w->Q .normal ⟨Br.fill U2 (nlV bk n c2 c4 c6) tb,[]⟩ w) :
  ∀ fuel listed (aw:Act × World) rest,Br.Ord U2 fuel listed rest->(∃ c2 c4 c6,Br.Agr U2 (nlV bk n c2 c4 c6) tb listed aw.1/\NlI v bk n c2 c4 c6 listed aw.2)->wpOps Tryd.prog U2 Q rest aw.1 aw.2:=by
 refine a3V (J:=λ(aw:Act × World) rest=>wpOps Tryd.prog U2 Q rest aw.1 aw.2) (λf0 listed aw q rest hi hA2 hO hIH=>?_) (λlisted aw hr hA2=>?_)
 ·obtain ⟨a,w⟩:=aw;obtain ⟨c2,c4,c6,hA,hI⟩:=hA2;simp only at hA hI;have hlt:=Br.G8 hi;have hz:U2.size=8:=by kernel_rfl
  rw [hz] at hlt;have fq:=M4 hi;have hcs:q=0\/q=1\/q=2\/q=3\/q=4\/q=5\/q=6\/q=7:=by omega
  rcases hcs with rfl|rfl|rfl|rfl|rfl|rfl|rfl|rfl
  ·obtain ⟨o,ho,hop,hg⟩:∃ o,U2[0]?=some o/\o.op=.move (.tmp 0)/\o.guard=none:=⟨_,rfl,rfl,rfl⟩;have e0:a.eval (.tmp 0)=.pointer (some ⟨bk,0,none⟩):=hA.base (by kernel_rfl) b0;exact E3 ho hg (w':=w) (w8 hop e0) (hIH (_,w) ⟨c2,c4,c6,hA.put a2j ho rfl,hI.pure (by omega) (by omega) (by omega) (by omega) (by omega)⟩)
  ·obtain ⟨o,ho,hop,hg⟩:∃ o,U2[1]?=some o/\o.op=.move (.tmp 3)/\o.guard=none:=⟨_,rfl,rfl,rfl⟩;have e0:a.eval (.tmp 3)=.int .i64 n:=hA.base (by kernel_rfl) b3;exact E3 ho hg (w':=w) (w8 hop e0) (hIH (_,w) ⟨c2,c4,c6,hA.put a2j ho rfl,hI.pure (by omega) (by omega) (by omega) (by omega) (by omega)⟩)
  ·obtain ⟨o,ho,hop,hg⟩:∃ o,U2[2]?=some o/\o.op=.makeSlice 102 (.tmp 9) (.tmp 9)/\o.guard=none:=⟨_,rfl,rfl,rfl⟩;have e9:a.eval (.tmp 9)=.int .i64 n:=hA.tmp (j:=1) rfl rfl (Br.f9 hi rfl (by kernel_rfl)) (by omega) rfl;obtain ⟨C,hC,hCz,hmk⟩:=c1M n hn w;have f5:listed.getD 5 false=false:=by
    cases e:listed.getD 5 false with
    | false=>rfl
    | true=>rw [(hI.l5 e).1] at fq;cases fq
   have f6:listed.getD 6 false=false:=by
    cases e:listed.getD 6 false with
    | false=>rfl
    | true=>rw [(hI.l6 e).1] at f5;cases f5
   have f7:listed.getD 7 false=false:=by
    cases e:listed.getD 7 false with
    | false=>rfl
    | true=>rw [hI.l7 e] at f6;cases f6
   have hA':Br.Agr U2 (nlV bk n w.heap.size c4 c6) tb listed a:=hA.val λi hli=>by
    match i,hli with
    | 0,_=>rfl
    | 1,_=>rfl
    | 2,h=>rw [fq] at h;cases h
    | 3,_=>rfl
    | 4,_=>rfl
    | 5,h=>rw [f5] at h;cases h
    | 6,h=>rw [f6] at h;cases h
    | 7,h=>rw [f7] at h;cases h
    | (_+8),_=>rfl
   have hsw:v.heap.size<=w.heap.size:=hI.bel.size;refine E3 ho hg (v:=.slice (some ⟨w.heap.size,0,none⟩) n n) (w':=w.alloc (.cells C 106)) (by unfold execOp;simp only [hop,e9];go_simp) (hIH (_,_) ⟨w.heap.size,c4,c6,hA'.put a2j ho rfl,⟨hI.bel.alloc hsw _,λ_=>⟨hsw,⟨C,_,heap_alloc_new w _,hC,hCz⟩⟩,λh=>?_,λ_ h=>?_,λh=>?_,λh=>?_,λh=>?_⟩⟩)
   ·rw [g8 (by omega)] at h;exact ⟨(hI.l4 h).1,a2M (hI.l4 h).2 _⟩
   ·rw [g8 (by omega)] at h;have:=(hI.l4 h).2.lt;omega
   ·rw [g8 (by omega),f5] at h;cases h
   ·rw [g8 (by omega),f6] at h;cases h
   ·rw [g8 (by omega),f7] at h;cases h
  ·obtain ⟨o,ho,hop,hg⟩:∃ o,U2[3]?=some o/\o.op=.move (.tmp 3)/\o.guard=none:=⟨_,rfl,rfl,rfl⟩;have e0:a.eval (.tmp 3)=.int .i64 n:=hA.base (by kernel_rfl) b3;exact E3 ho hg (w':=w) (w8 hop e0) (hIH (_,w) ⟨c2,c4,c6,hA.put a2j ho rfl,hI.pure (by omega) (by omega) (by omega) (by omega) (by omega)⟩)
  ·obtain ⟨o,ho,hop,hg⟩:∃ o,U2[4]?=some o/\o.op=.makeSlice 64 (.tmp 11) (.tmp 11)/\o.guard=none:=⟨_,rfl,rfl,rfl⟩;have e9:a.eval (.tmp 11)=.int .i64 n:=hA.tmp (j:=3) rfl rfl (Br.f9 hi rfl (by kernel_rfl)) (by omega) rfl;obtain ⟨C,hC,hCz,hmk⟩:=c1N n hn w;have f5:listed.getD 5 false=false:=by
    cases e:listed.getD 5 false with
    | false=>rfl
    | true=>rw [(hI.l5 e).2] at fq;cases fq
   have f6:listed.getD 6 false=false:=by
    cases e:listed.getD 6 false with
    | false=>rfl
    | true=>rw [(hI.l6 e).1] at f5;cases f5
   have f7:listed.getD 7 false=false:=by
    cases e:listed.getD 7 false with
    | false=>rfl
    | true=>rw [hI.l7 e] at f6;cases f6
   have hA':Br.Agr U2 (nlV bk n c2 w.heap.size c6) tb listed a:=hA.val λi hli=>by
    match i,hli with
    | 0,_=>rfl
    | 1,_=>rfl
    | 2,_=>rfl
    | 3,_=>rfl
    | 4,h=>rw [fq] at h;cases h
    | 5,h=>rw [f5] at h;cases h
    | 6,h=>rw [f6] at h;cases h
    | 7,h=>rw [f7] at h;cases h
    | (_+8),_=>rfl
   have hsw:v.heap.size<=w.heap.size:=hI.bel.size;refine E3 ho hg (v:=.slice (some ⟨w.heap.size,0,none⟩) n n) (w':=w.alloc (.cells C 65)) (by unfold execOp;simp only [hop,e9];go_simp) (hIH (_,_) ⟨c2,w.heap.size,c6,hA'.put a2j ho rfl,⟨hI.bel.alloc hsw _,λh=>?_,λ_=>⟨hsw,⟨C,_,heap_alloc_new w _,hC,hCz⟩⟩,λh _=>?_,λh=>?_,λh=>?_,λh=>?_⟩⟩)
   ·rw [g8 (by omega)] at h;exact ⟨(hI.l2 h).1,a2M (hI.l2 h).2 _⟩
   ·rw [g8 (by omega)] at h;have:=(hI.l2 h).2.lt;omega
   ·rw [g8 (by omega),f5] at h;cases h
   ·rw [g8 (by omega),f6] at h;cases h
   ·rw [g8 (by omega),f7] at h;cases h
  ·obtain ⟨o,ho,hop,hg⟩:∃ o,U2[5]?=some o/\o.op=.build 104 #[(0,.tmp 8),(1,.tmp 10),(2,.tmp 12)]/\o.guard=none:=⟨_,rfl,rfl,rfl⟩;have y2:listed.getD 2 false=true:=Br.f9 hi rfl (by kernel_rfl);have y4:listed.getD 4 false=true:=Br.f9 hi rfl (by kernel_rfl);have e8:a.eval (.tmp 8)=.pointer (some ⟨bk,0,none⟩):=hA.tmp (j:=0) rfl rfl (Br.f9 hi rfl (by kernel_rfl)) (by omega) rfl;have e10:a.eval (.tmp 10)=.slice (some ⟨c2,0,none⟩) n n:=hA.tmp (j:=2) rfl rfl y2 (by omega) rfl;have e12:a.eval (.tmp 12)=.slice (some ⟨c4,0,none⟩) n n:=hA.tmp (j:=4) rfl rfl y4 (by omega) rfl;exact E3 ho hg (v:=.agg (nlA bk n c2 c4)) (w':=w) (by unfold execOp;simp only [hop,List.map_toArray,List.map_cons,List.map_nil,e8,e10,e12];kernel_rfl) (hIH (_,w) ⟨c2,c4,c6,hA.put a2j ho rfl,⟨hI.bel,by rw [g8 (by omega)];exact hI.l2,by rw [g8 (by omega)];exact hI.l4,by rw [g8 (by omega),g8 (by omega)];exact hI.l24,λ_=>by rw [g8 (by omega),g8 (by omega)];exact ⟨y2,y4⟩,λh=>(by rw [g8 (by omega)] at h;rw [(hI.l6 h).1] at fq;cases fq),by rw [g8 (by omega),g8 (by omega)];exact hI.l7⟩⟩)
  ·obtain ⟨o,ho,hop,hg⟩:∃ o,U2[6]?=some o/\o.op=.box 104 (.tmp 13)/\o.guard=none:=⟨_,rfl,rfl,rfl⟩;have y5:listed.getD 5 false=true:=Br.f9 hi rfl (by kernel_rfl);have e13:a.eval (.tmp 13)=.agg (nlA bk n c2 c4):=hA.tmp (j:=5) rfl rfl y5 (by omega) rfl;obtain ⟨y2,y4⟩:=hI.l5 y5;have f7:listed.getD 7 false=false:=by
    cases e:listed.getD 7 false with
    | false=>rfl
    | true=>rw [hI.l7 e] at fq;cases fq
   have hA':Br.Agr U2 (nlV bk n c2 c4 w.heap.size) tb listed a:=hA.val λi hli=>by
    match i,hli with
    | 0,_=>rfl
    | 1,_=>rfl
    | 2,_=>rfl
    | 3,_=>rfl
    | 4,_=>rfl
    | 5,_=>rfl
    | 6,h=>rw [fq] at h;cases h
    | 7,h=>rw [f7] at h;cases h
    | (_+8),_=>rfl
   have hsw:v.heap.size<=w.heap.size:=hI.bel.size;have r2:=(hI.l2 y2).2;have r4:=(hI.l4 y4).2;exact E3 ho hg (v:=.pointer (some ⟨w.heap.size,0,none⟩)) (w':=w.alloc (.cells (nlA bk n c2 c4) 104 (0,0))) (by unfold execOp;simp only [hop,e13];kernel_rfl) (hIH (_,_) ⟨c2,c4,w.heap.size,hA'.put a2j ho rfl,⟨hI.bel.alloc hsw _,λ_=>⟨(hI.l2 y2).1,a2M r2 _⟩,λ_=>⟨(hI.l4 y4).1,a2M r4 _⟩,λ_ _=>hI.l24 y2 y4,λ_=>by rw [g8 (by omega),g8 (by omega)];exact ⟨y2,y4⟩,λ_=>⟨by rw [g8 (by omega)];exact y5,hsw,heap_alloc_new w _,r2.lt,r4.lt⟩,λh=>by rw [g8 (by omega),f7] at h;cases h⟩⟩)
  ·obtain ⟨o,ho,hop,hg⟩:∃ o,U2[7]?=some o/\o.op=.assign (.tmp 14)/\o.guard=none:=⟨_,rfl,rfl,rfl⟩;have y6:listed.getD 6 false=true:=Br.f9 hi rfl (by kernel_rfl);have e14:a.eval (.tmp 14)=.pointer (some ⟨c6,0,none⟩):=hA.tmp (j:=6) rfl rfl y6 (by omega) rfl;exact E3 ho hg (v:=.pointer (some ⟨c6,0,none⟩)) (w':=w) (by unfold execOp;simp only [hop,e14];rfl) (hIH (_,w) ⟨c2,c4,c6,hA.put a2j ho rfl,⟨hI.bel,by rw [g8 (by omega)];exact hI.l2,by rw [g8 (by omega)];exact hI.l4,by rw [g8 (by omega),g8 (by omega)];exact hI.l24,by rw [g8 (by omega),g8 (by omega),g8 (by omega)];exact hI.l5,by rw [g8 (by omega),g8 (by omega)];exact hI.l6,λ_=>by rw [g8 (by omega)];exact y6⟩⟩)
 ·obtain ⟨a,w⟩:=aw;obtain ⟨c2,c4,c6,hA,hI⟩:=hA2;simp only at hA hI;have hall:=Br.G9 (by kernel_rfl) hA.len hr;have hz:U2.size=8:=by kernel_rfl
  obtain rfl:=hA.full hall;have t:∀ j,j<8->listed.getD j false=true:=λj hj=>hall j (by omega);exact hfin c2 c4 c6 w ⟨hI.bel,λ_=>hI.l2 (t 2 (by omega)),λ_=>hI.l4 (t 4 (by omega)),λ_ _=>hI.l24 (t 2 (by omega)) (t 4 (by omega)),λ_=>⟨rfl,rfl⟩,λ_=>⟨rfl,(hI.l6 (t 6 (by omega))).2⟩,λ_=>rfl⟩
structure NewL (w w':World) (bk n bl bu bn:Nat):Prop where
 bel:Below w.heap.size w w'
 gl:w.heap.size<=bl
 gu:w.heap.size<=bu
 gn:w.heap.size<=bn
 lu:bu<bl
 ln:bn<bl
 un:bu≠bn
 l:w'.heap[bl]?=some (.cells (nlA bk n bu bn) 104 (0,0))
 u:X2 w' bu n (λ_=>.pointer none)
 d:X2 w' bn n (λ_=>.slice none 0 0)
theorem b3H (n j:Nat):(Array.replicate n false).getD j false=false:=by
 rw [Array.getD_eq_getD_getElem?,Array.getElem?_replicate];split<;>rfl
theorem b6x {w:World}{bk bf bs bd:Nat}{K:Ker}(R:Rep w bk bf bs bd K) :
  Calls Tryd.prog 16 #[.pointer (some ⟨bk,0,none⟩)] w λe w'=>∃ bl,e=.returned (.pointer (some ⟨bl,0,none⟩))/\∃ bu bn,NewL w w' bk K.nS bl bu bn:=by
 go_enter Tryd.func16,Tryd.ntmps16
 have h6:Hid (K.nS<=6):=R.hS
 go_wp2_with fail
 refine (a8q R).mono ?_;rintro e w1 ⟨gF,gS,gD,rfl,b1,S1,l1,l2,l3⟩;unfold A4;have hfd:∀ w:World,(Instr.field 45 (.agg #[Value.slice (some ⟨gF,0,none⟩) K.nF K.nF,.slice (some ⟨gS,0,none⟩) K.nS K.nS,.slice (some ⟨gD,0,none⟩) K.nD K.nD]) 1).run Tryd.prog w=.ok (.slice (some ⟨gS,0,none⟩) K.nS K.nS) w:=λ_=>by kernel_rfl
 go_wp2_with fail
 clear hfd;refine wp_region_draw (ops:=U2) λt=>?_;have hb:Below w.heap.size w { w1 with drawn:=w1.drawn+1 }:=b1.drew;refine b3G (v:={ w1 with drawn:=w1.drawn+1 }) (bk:=bk) (n:=K.nS) (by have:=h6.out;omega) rfl rfl rfl ?_ _ _ (_,_) _ (Br.X8 (by kernel_rfl) U2 t) ⟨0,0,0,Br.Agr.start _ _ _,⟨.refl _ _,λh=>?_,λh=>?_,λh=>?_,λh=>?_,λh=>?_,λh=>?_⟩⟩
 ·intro c2 c4 c6 w2 I;rename_i Q' KK hKK;refine hKK _ _ ?_;have hf:Br.fill U2 (nlV bk K.nS c2 c4 c6) #[.pointer (some ⟨bk,0,none⟩),undef,.pointer none,.int .i64 K.nS,.pointer (some ⟨bk,0,none⟩),.agg #[.slice (some ⟨gF,0,none⟩) K.nF K.nF,.slice (some ⟨gS,0,none⟩) K.nS K.nS,.slice (some ⟨gD,0,none⟩) K.nD K.nD],.slice (some ⟨gS,0,none⟩) K.nS K.nS,.int .i64 K.nS,undef,undef,undef,undef,undef,undef,undef]
    = #[.pointer (some ⟨bk,0,none⟩),undef,.pointer (some ⟨c6,0,none⟩),.int .i64 K.nS,.pointer (some ⟨bk,0,none⟩),.agg #[.slice (some ⟨gF,0,none⟩) K.nF K.nF,.slice (some ⟨gS,0,none⟩) K.nS K.nS,.slice (some ⟨gD,0,none⟩) K.nD K.nD],.slice (some ⟨gS,0,none⟩) K.nS K.nS,.int .i64 K.nS,.pointer (some ⟨bk,0,none⟩),.int .i64 K.nS,.slice (some ⟨c2,0,none⟩) K.nS K.nS,.int .i64 K.nS,.slice (some ⟨c4,0,none⟩) K.nS K.nS,.agg (nlA bk K.nS c2 c4),.pointer (some ⟨c6,0,none⟩)]:=by kernel_rfl
  rw [hf];have I2:=I.l2 rfl;have I4:=I.l4 rfl;have I24:=I.l24 rfl rfl;have I6:=(I.l6 rfl).2;have Ib:=I.bel;have sz:w.heap.size<=({ w1 with drawn:=w1.drawn+1 }:World).heap.size:=b1.size;clear I hf hKK
  go_wp2_with fail
  go_ret
  exact ⟨c6,rfl,c2,c4,a1O hb Ib sz,Nat.le_trans sz I6.1,Nat.le_trans sz I2.1,Nat.le_trans sz I4.1,I6.2.2.1,I6.2.2.2,I24,I6.2.1,I2.2,I4.2⟩
 all_goals (rw [b3H] at h;cases h)
attribute [local go_sem ↓] Go.wp_at_zero Go.wp_at_succ
theorem c0E:(Tryd.prog.info? 70).map (λi=>(i.zero.isSome,i.size,i.bytes))=some (true,5,40):=by kernel_rfl
theorem c0F (n:Nat)(hn:n<=4398046511104)(w:World):∃ C:Array Value,C.size=n*5/\(Instr.makeSlice 65 (.int .i64 n) (.int .i64 n)).run Tryd.prog w=.ok (.slice (some ⟨w.heap.size,0,none⟩) n n) (w.alloc (.cells C 70)):=by
 have hinfo:=c0E
 cases hq:Tryd.prog.info? 70 with
 | none=>rw [hq] at hinfo;cases hinfo
 | some i =>
  rw [hq] at hinfo;simp only [Option.map_some,Option.some.injEq,Prod.mk.injEq] at hinfo;obtain ⟨hz,hs,hb⟩:=hinfo;obtain ⟨z,hz⟩:=Option.isSome_iff_exists.1 hz;have:=run_make (P:=Tryd.prog) w 65 70 i z Tryd.underlying65 hq hz .i64 .i64 n n (by omega) (by omega) (by rw [hb];omega) (by omega);rw [hs] at this;exact ⟨_,size_madeCells _ _,this⟩
theorem b1k {P:Program}(w:World)(dT ty elem:TypeId)(b g n m cap:Nat)(cs:List Value)(hu:P.underlying dT=some (.slice elem))(hs:(P.info? elem).map (·.size)=some m)(hn:cs.length=n*m)
  (hsrc:∀ j v,cs[j]?=some v->w.cell? ((⟨g,0,none⟩:Addr).add j)=some v)(ht:w.there b 0 cs.length)(h1:∀ v∈cs,v.oneCell'=true) :
  (Builtin.copy_ #[dT,dT] ty #[.slice (some ⟨b,0,none⟩) n n,.slice (some ⟨g,0,none⟩) n cap]).run P w=.ok (goInt n) (w.setCells b 0 cs):=by
 have hl:=run_loadCells_list (P:=P) w ⟨g,0,none⟩ cs hsrc;have hst:=run_storeCells_cells (P:=P) b 0 cs 0 w (λj hj=>by simpa using (ht j hj).1) (λj hj=>by simpa using (ht j hj).2) h1
 cases hq:P.info? elem with
 | none=>simp [hq] at hs
 | some i =>
  have hi:i.size=m:=by simpa [hq] using hs
  rw [hn] at hl;simp only [Nat.add_zero] at hst;simp [Builtin.copy_,run_underlying hu,Builtin.lenOf,Builtin.firstCells,sizeOf,typeInfo,hq,hi,hl,hst]
structure DoneL (v v':World) (N:Nat) (Xs:List Value):Prop where
 bel:Below v.heap.size v v'
 size:v'.heap.size=v.heap.size+1
 row:v'.rowIs v.heap.size 70 (N*5) (λj=>Xs.getD j (.bool false))
theorem b6y (v:World)(bl bu bn n B0 p N:Nat)(Vp:Value)(Xs:List Value)(h1:v.cell? ⟨bl,1,none⟩=some (.slice (some ⟨bu,0,none⟩) n n))(h2:v.cell? ⟨bl,2,none⟩=some (.slice (some ⟨bn,0,none⟩) n n))(hp:p<n)
  (hc:v.cell? ⟨bn,p,none⟩=some Vp)(own:v.ownsRow B0 70 5 Vp N Xs)(hN:N<=4398046511104)(hx1:∀ x∈Xs,x.oneCell'=true) :
  Calls Tryd.prog 21 #[.pointer (some ⟨bl,0,none⟩),.int .i64 p] v λe v'=>e=.returned (.tuple #[.slice (some ⟨v.heap.size,0,none⟩) N N,.int .i64 0])/\DoneL v v' N Xs:=by
 have i0:(0:Int)<=(p:Int):=by omega
 have i1:(p:Int)<(n:Int):=by omega
 have ed:(decide (0<=(p:Int)) && decide ((p:Int)<n))=true:=by simp [hp]
 obtain ⟨C,hC,hmk⟩:=c0F N hN v;have hrow:=U5 v C 70;rw [hC] at hrow;have lbl:bl<v.heap.size:=cell_lt h2;have lbn:bn<v.heap.size:=cell_lt hc;have a2:(v.alloc (.cells C 70)).cell? ⟨bl,2,none⟩=some (.slice (some ⟨bn,0,none⟩) n n):=by rw [World.cell?_of_block (w:=v) (a:=⟨bl,2,none⟩) (Below.heap_alloc _ _ _ lbl)];exact h2
 have a3:(v.alloc (.cells C 70)).cell? ⟨bn,p,none⟩=some Vp:=by rw [World.cell?_of_block (w:=v) (a:=⟨bn,p,none⟩) (Below.heap_alloc _ _ _ lbn)];exact hc
 have hcp:∃ W,(∀ ty,(Builtin.copy_ #[65,65] ty #[.slice (some ⟨v.heap.size,0,none⟩) N N,Vp]).run Tryd.prog (v.alloc (.cells C 70))=.ok (goInt N) W)/\DoneL v W N Xs:=by
  obtain ⟨hl,⟨rfl,rfl⟩|⟨g,cap,cur,rfl,a1,a4,a5,a6,a7,a8⟩⟩:=own
  ·refine ⟨_,λty=>run_copy_nil _ _ _ _ _ _ _ _ _ Tryd.underlying65 (by kernel_rfl),(Below.refl _ _).alloc (Nat.le_refl _) _,by simp,hrow.congr λj hj=>by omega⟩
  ·have hg:g<v.heap.size:=(Array.getElem?_eq_some_iff.1 a4).1;refine ⟨_,λty=>b1k _ _ _ 70 _ _ N 5 cap Xs Tryd.underlying65 (by kernel_rfl) hl (λj x hx=>?_) (by rw [hl];exact B5 hrow (by omega)) hx1,A0 (Nat.le_refl _) _ _ ((Below.refl _ _).alloc (Nat.le_refl _) _),by rw [u9];simp,(B8 _ 0 hrow).congr λj hj=>?_⟩
   ·rw [Addr.add_mid,Nat.zero_add,World.cell?_of_block (w:=v) (a:=⟨g,j,none⟩) (Below.heap_alloc _ _ _ hg)];simp only [World.cell?,a4];have hj:j<N*5:=by have:=(List.getElem?_eq_some_iff.1 hx).1;omega
    rw [← a8,List.getElem?_take_of_lt hj] at hx;simpa using hx
   ·rw [if_pos (by omega),Nat.sub_zero]
 obtain ⟨W,hW,hD⟩:=hcp;have HW:Hid (∀ ty,_):=hW;have HD:Hid (DoneL v W N Xs):=hD;have hlen:∃ cap a,Vp=.slice a N cap:=by
  obtain ⟨hl,⟨rfl,rfl⟩|⟨g,cap,cur,rfl,_⟩⟩:=own
  ·exact ⟨0,none,rfl⟩
  ·exact ⟨cap,some ⟨g,0,none⟩,rfl⟩
 obtain ⟨cap,a,rfl⟩:=hlen;clear own hrow hC hx1 hD hW
 go_enter Tryd.func21,Tryd.ntmps21
 go_wp2_with fail
 refine (a3a v bl bu n p h1).mono ?_;rintro e w1 ⟨rfl,rfl⟩;rw [ed]
 go_wp2_with (refine R8 rfl _ _ 65 rfl (.slice (some ⟨w1.heap.size,0,none⟩) N N) (.slice a N cap) (goInt N) rfl rfl (HW.out _) ?_)
 go_ret2
 exact ⟨rfl,HD.out⟩
end Go.Proofs.YtcgabodkegcpgaaDoor
namespace Go.Proofs.YtcgabodkegcpgaaDoor
open Go.RowKit
attribute [local go_sem ↓] Go.wp_at_zero Go.wp_at_succ
end Go.Proofs.YtcgabodkegcpgaaDoor
