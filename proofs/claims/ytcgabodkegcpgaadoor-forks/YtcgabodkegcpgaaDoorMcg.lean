/- begin: a new operation's record and channels. -/
import Derived.Test.YtcgabodkegcpgaaDoorMcd
import Derived.Conc.SmallLaws
import Derived.Deep.AppendLies
import Derived.Test.YtcgabodkegcpgaaDoorSao
set_option linter.unusedVariables false
set_option linter.unusedSimpArgs false
set_option maxHeartbeats 20000000
set_option maxRecDepth 100000
namespace Go.Proofs.YtcgabodkegcpgaaDoor
open Go.Conc Go.RowKit
open Br (X OpD KO SO SP sfO Lk Fit Must DL Liv Clear)
theorem a3V {σ:Type}{ops:Array Oper}{J:σ->List Nat->Prop}{Ag:Array Bool->σ->Prop}
  (hstep:∀ f listed a i rest,i∈Region.ready .any ops listed->Ag listed a->Br.Ord ops f (listed.setIfInBounds i true) rest->(∀ a',Ag (listed.setIfInBounds i true) a'->J a' rest)->J a (i::rest))
  (hdone:∀ listed a,Region.ready .any ops listed=[]->Ag listed a->J a []) :
  ∀ fuel listed a rest,Br.Ord ops fuel listed rest->Ag listed a->J a rest:=by
 intro fuel
 induction fuel with
 | zero =>
  intro listed a rest hO hA;rcases hO.next with ⟨rfl,h⟩|⟨f,i,rest',hi,rfl,hf,hO'⟩
  ·exact hdone listed a h hA
  ·cases hf
 | succ f ih =>
  intro listed a rest hO hA;rcases hO.next with ⟨rfl,h⟩|⟨f',i,rest',hi,rfl,hf,hO'⟩
  ·exact hdone listed a h hA
  ·obtain rfl:f=f':=by omega
   exact hstep f listed a i rest' hi hA hO' (λa' hA'=>ih _ a' rest' hO' hA')
theorem g8 {listed:Array Bool}{i j:Nat}(e:i≠j):(listed.setIfInBounds i true).getD j false=listed.getD j false:=by
 rw [Array.getD_eq_getD_getElem?,Array.getD_eq_getD_getElem?,Array.getElem?_setIfInBounds,if_neg e]
theorem M4 {ops:Array Oper}{listed:Array Bool}{i:Nat}(h:i∈Region.ready .any ops listed):listed.getD i false=false:=by
 cases e:listed.getD i false with
 | false=>rfl
 | true=>exact (Br.v9 h e).elim
noncomputable def C7:Array Oper :=
 match Tryd.f41.body with
 | some (.seq _ (.seq (.region _ ops _) _))=>ops
 | _=>#[]
theorem Z0:Br.a0R C7=true:=by kernel_rfl
def a8J (bk:Nat)(p kd A B:Int)(c:Nat->Nat):Array Value:=#[.chan (some (c 0)),.chan (some (c 1)),.chan (some (c 2)),.pointer (some ⟨bk,0,none⟩),.int .i64 p,.int .i64 kd,.int .i64 A,.int .i64 B,.int .i64 0,.int .i64 0,.slice none 0 0,.bool false,.bool false]
def a4U (bk:Nat)(p kd A B:Int)(c:Nat->Nat)(bo:Nat):Nat->Value
 | 0=>.chan (some (c 0))|1=>.chan (some (c 1))|2=>.chan (some (c 2))|3=>.pointer (some ⟨bk,0,none⟩)|4=>.int .i64 p|5=>.agg #[.int .i64 kd,.int .i64 A,.int .i64 B]
 | 6=>.agg #[.int .i64 kd,.int .i64 A,.int .i64 B,.int .i64 0,.int .i64 0]|7=>.agg (a8J bk p kd A B c)|8=>.pointer (some ⟨bo,0,none⟩)|9=>.pointer (some ⟨bo,0,none⟩)|_=>undef
def cnt (listed:Array Bool):Nat:=(if listed.getD 0 false then 1 else 0)+(if listed.getD 1 false then 1 else 0)+(if listed.getD 2 false then 1 else 0)
theorem b2N (w:World):(Instr.makeChan 108 (.int .i64 0)).run Tryd.prog w=.ok (.chan (some w.heap.size)) (w.alloc (.chan 0 #[] false 0 0 false)):=by
 have h:(Tryd.prog.info? 115).map (·.bytes)=some 0:=by kernel_rfl
 obtain ⟨i,hi,hb⟩:=Option.map_eq_some_iff.1 h;exact run_makeChan (P:=Tryd.prog) (w:=w) Tryd.underlying108 hi .i64 0 (by omega) (by omega)
theorem b3B (w:World)(es:Array Event):(Instr.makeChan 108 (.int .i64 0)).events Tryd.prog w es=es:=by
 have h:(Tryd.prog.info? 115).map (·.bytes)=some 0:=by kernel_rfl
 obtain ⟨i,hi,hb⟩:=Option.map_eq_some_iff.1 h;exact events_makeChan (P:=Tryd.prog) (w:=w) Tryd.underlying108 hi .i64 0 (by omega) (by omega) es
section
variable {kb:Kb} {l:List OpD} {st:Bool} {Stop:Goroutine->World->Prop} {W:World} {bk bx bo:Nat} {p kd A B:Int} {tb:Array Value}
theorem u7 {ops:Array Oper}{i:Nat}{o:Oper}{a:Act}{b:Frame}{rest:List Nat}{k:List Item}{cs:List Frame}{main:Bool}{sft:Nat->Nat}{w:World}{v:Value}(ho:ops[i]?=some o)(hg:o.guard=none)(hk:b.kind≠.early)(hop:Br.Y6 Tryd.prog (λ_=>false) [] false o.op=true)(hc:Clear w)
  (hv:∀ d,(execOp a.eval o).run Tryd.prog (w.at d)=.ok (.value v) (w.at d))(hn:∀ d,Must Tryd.prog main (DL st sft) Stop (G (b.at (a.put o.dst v) (.inRegion ops rest::k)) cs) (w.at d))(d0:Nat) :
  Must Tryd.prog main (DL st sft) Stop (G (b.at a (.inRegion ops (i::rest)::k)) cs) (w.at d0) :=
 Br.a4X ho (by unfold Region.wanted;rw [hg]) hk hop hc (λd K' hK=>by rw [hv d];exact hK _ _ ⟨rfl,hn d⟩) d0
theorem b8Y (h19:tb.size=19){c:Nat->Nat}{w:World}(hc:Clear w)(k:List Item)(cs:List Frame)
  (hfin:∀ d,Must Tryd.prog true (DL st (sfO l)) Stop (G ((base 41).at ⟨Br.fill C7 (a4U bk p kd A B c bo) tb,[]⟩ (.inRegion C7 [] :: k)) cs) (w.at d)) :
  ∀ fuel listed a rest,Br.Ord C7 fuel listed rest->(Br.Agr C7 (a4U bk p kd A B c bo) tb listed a/\∀ j,j<=8->listed.getD j false=true)->∀ d,Must Tryd.prog true (DL st (sfO l)) Stop (G ((base 41).at a (.inRegion C7 rest::k)) cs) (w.at d):=by
 refine Br.a1M (J:=λa rest=>∀ d,Must Tryd.prog true (DL st (sfO l)) Stop (G ((base 41).at a (.inRegion C7 rest::k)) cs) (w.at d)) (λf listed a q rest hi hA2 hO hIH=>?_) (λlisted a hr hA2=>?_)
 ·obtain ⟨hA,hL⟩:=hA2;have hlt:=Br.G8 hi;have hz:C7.size=10:=by kernel_rfl
  rw [hz] at hlt;have hcs:q=0\/q=1\/q=2\/q=3\/q=4\/q=5\/q=6\/q=7\/q=8\/q=9:=by omega
  rcases hcs with rfl|rfl|rfl|rfl|rfl|rfl|rfl|rfl|rfl|rfl
  ·exact (Br.v9 hi (hL 0 (by omega))).elim
  ·exact (Br.v9 hi (hL 1 (by omega))).elim
  ·exact (Br.v9 hi (hL 2 (by omega))).elim
  ·exact (Br.v9 hi (hL 3 (by omega))).elim
  ·exact (Br.v9 hi (hL 4 (by omega))).elim
  ·exact (Br.v9 hi (hL 5 (by omega))).elim
  ·exact (Br.v9 hi (hL 6 (by omega))).elim
  ·exact (Br.v9 hi (hL 7 (by omega))).elim
  ·exact (Br.v9 hi (hL 8 (by omega))).elim
  ·obtain ⟨o,ho,hop,hg⟩:∃ o,C7[9]?=some o/\o.op=.assign (.tmp 16)/\o.guard=none:=⟨_,rfl,rfl,rfl⟩;have e16:a.eval (.tmp 16)=.pointer (some ⟨bo,0,none⟩):=hA.tmp (j:=8) rfl rfl (hL 8 (by omega)) (by omega) rfl;exact u7 ho hg (by decide) (by rw [hop];rfl) hc (λd=>P6 hop e16) (hIH _ ⟨hA.put Z0 ho rfl,λj hj=>Br.C0 (hL j hj)⟩)
 ·obtain ⟨hA,hL⟩:=hA2;obtain rfl:=hA.full (Br.G9 (by kernel_rfl) hA.len hr);exact hfin
structure Chs (W w:World) (c:Nat->Nat) (on:Nat->Prop):Prop where
 is:∀ i,i<3->on i->W.heap.size<=c i/\c i<w.heap.size/\w.heap[c i]?=some (.chan 0 #[] false 0 0 false)
 ne:∀ i j,i<3->j<3->i≠j->on i->on j->c i≠c j
theorem Chs.add {W w:World}{c:Nat->Nat}{on on':Nat->Prop}(h:Chs W w c on)(hW:W.heap.size<=w.heap.size){i:Nat}(hon:∀ q,on' q->q=i\/on q):Chs W (w.alloc (.chan 0 #[] false 0 0 false)) (λq=>if q=i then w.heap.size else c q) on':=by
 refine ⟨λq hq h1=>?_,λq q' hq hq' hne h1 h2=>?_⟩
 ·by_cases e:q=i
  ·simp only [e,if_true];exact ⟨hW,by simp,heap_alloc_new w _⟩
  ·simp only [e,if_false];obtain ⟨a1,a2,a3⟩:=h.is q hq ((hon q h1).resolve_left e);exact ⟨a1,by simp;omega,by rw [Below.heap_alloc w _ _ a2];exact a3⟩
 ·by_cases e:q=i
  ·by_cases e':q'=i
   ·exact absurd (e.trans e'.symm) hne
   ·simp only [e,e',if_true,if_false];have:=(h.is q' hq' ((hon q' h2).resolve_left e')).2.1;omega
  ·by_cases e':q'=i
   ·simp only [e,e',if_true,if_false];have:=(h.is q hq ((hon q h1).resolve_left e)).2.1;omega
   ·simp only [e,e',if_false];exact h.ne q q' hq hq' hne ((hon q h1).resolve_left e) ((hon q' h2).resolve_left e')
theorem Chs.grow {W w w':World}{c:Nat->Nat}{on:Nat->Prop}(h:Chs W w c on)(hg:Grown w w'):Chs W w' c on :=
 ⟨λi hi ho=>by obtain ⟨a1,a2,a3⟩:=h.is i hi ho;exact ⟨a1,Nat.lt_of_lt_of_le a2 hg.size,by rw [hg.old _ a2];exact a3⟩,h.ne⟩
theorem a4V {o:Oper}{a:Act}{w:World}(hop:o.op=.makeChan 108 (.const (.int .i64 0))):(execOp a.eval o).run Tryd.prog w=.ok (.value (.chan (some w.heap.size))) (w.alloc (.chan 0 #[] false 0 0 false))/\(execOp a.eval o).events Tryd.prog w #[]=#[]:=by
 unfold execOp;simp only [hop];constructor
 ·simp [Act.eval,b2N]
 ·simp [Act.eval,b2N,b3B]
theorem a1t {ops:Array Oper}{i:Nat}{o:Oper}{a:Act}{b:Frame}{rest:List Nat}{k:List Item}{cs:List Frame}{main:Bool}{sft:Nat->Nat}{w:World}{v:Value}{ob:Obj}(ho:ops[i]?=some o)(hg:o.guard=none)(hk:b.kind≠.early)
  (hv:∀ d,(execOp a.eval o).run Tryd.prog (w.at d)=.ok (.value v) ((w.at d).alloc ob))(he:∀ d,(execOp a.eval o).events Tryd.prog (w.at d) #[]=#[])(hn:∀ d,Must Tryd.prog main (DL st sft) Stop (G (b.at (a.put o.dst v) (.inRegion ops rest::k)) cs) ((w.alloc ob).at d))(d0:Nat)(hsg:Br.Obj.sight ob:=by trivial) :
  Must Tryd.prog main (DL st sft) Stop (G (b.at a (.inRegion ops (i::rest)::k)) cs) (w.at d0) :=
 Br.t8 ho (by unfold Region.wanted;rw [hg]) hk (λd K' hK=>by
  rw [hv d]
  exact hK _ _ ⟨Br.L7 (λe h=>by rw [listed_none (he d)] at h;simp at h) hsg,hn d⟩) d0
theorem M5 {w:World}(hc:Clear w){ob:Obj}(hs:Br.Obj.sight ob):Grown w (w.alloc ob):=⟨by simp,λk hk=>Below.heap_alloc w ob k hk,(Br.a0K hc.lk (o:=ob) hs).1.sight⟩
theorem b8Z (h19:tb.size=19)(hbo:bo=W.heap.size+3)(b0:tb[0]?=some (.pointer (some ⟨bk,0,none⟩)))(b1:tb[1]?=some (.int .i64 p))(b5:tb[5]?=some (.pointer (some ⟨bx,0,none⟩)))(hbx:bx<W.heap.size)(x0:W.cell? ⟨bx,0,none⟩=some (.int .i64 kd))(x1:W.cell? ⟨bx,1,none⟩=some (.int .i64 A))(x2:W.cell? ⟨bx,2,none⟩=some (.int .i64 B))(k:List Item)(cs:List Frame)
  (hfin:∀ c w,Grown W w->w.heap.size=W.heap.size+4->Chs W w c (λ_=>True)->w.heap[bo]?=some (.cells (a8J bk p kd A B c) 111 (0,0))->∀ d,Must Tryd.prog true (DL st (sfO l)) Stop (G ((base 41).at ⟨Br.fill C7 (a4U bk p kd A B c bo) tb,[]⟩ (.inRegion C7 [] :: k)) cs) (w.at d)) :
  ∀ fuel listed (aw:Act × World) rest,Br.Ord C7 fuel listed rest->(∃ c,Br.Agr C7 (a4U bk p kd A B c bo) tb listed aw.1/\Grown W aw.2/\aw.2.heap.size=W.heap.size+cnt listed/\Chs W aw.2 c (λi=>listed.getD i false=true)/\(listed.getD 6 false=true->listed.getD 5 false=true)/\(listed.getD 7 false=true->∀ j,j<=6->listed.getD j false=true)/\∀ j,8<=j->listed.getD j false=false) ->
   ∀ d,Must Tryd.prog true (DL st (sfO l)) Stop (G ((base 41).at aw.1 (.inRegion C7 rest::k)) cs) (aw.2.at d):=by
 refine a3V (J:=λ(aw:Act × World) rest=>∀ d,Must Tryd.prog true (DL st (sfO l)) Stop (G ((base 41).at aw.1 (.inRegion C7 rest::k)) cs) (aw.2.at d)) (λf0 listed aw q rest hi hA2 hO hIH=>?_) (λlisted aw hr hA2=>?_)
 ·obtain ⟨a,w⟩:=aw;obtain ⟨c,hA,hG,hsz,hch,h65,h7,h8⟩:=hA2;simp only at hA hG hsz hch;have y0:w.cell? ⟨bx,0,none⟩=some (.int .i64 kd):=(World.cell?_of_block (w:=W) (hG.old bx hbx)).trans x0;have y1:w.cell? ⟨bx,1,none⟩=some (.int .i64 A):=(World.cell?_of_block (w:=W) (hG.old bx hbx)).trans x1;have y2:w.cell? ⟨bx,2,none⟩=some (.int .i64 B):=(World.cell?_of_block (w:=W) (hG.old bx hbx)).trans x2;have keep:∀ q,3<=q->q<=7->(q=6->listed.getD 5 false=true)->(q=7->∀ j,j<=6->listed.getD j false=true)->∀ a',Br.Agr C7 (a4U bk p kd A B c bo) tb (listed.setIfInBounds q true) a'->(∃ c,Br.Agr C7 (a4U bk p kd A B c bo) tb (listed.setIfInBounds q true) (a',w).1/\Grown W (a',w).2/\(a',w).2.heap.size=W.heap.size+cnt (listed.setIfInBounds q true)/\Chs W (a',w).2 c (λi=>(listed.setIfInBounds q true).getD i false=true)/\((listed.setIfInBounds q true).getD 6 false=true->(listed.setIfInBounds q true).getD 5 false=true)/\((listed.setIfInBounds q true).getD 7 false=true->∀ j,j<=6->(listed.setIfInBounds q true).getD j false=true)/\∀ j,8<=j->(listed.setIfInBounds q true).getD j false=false):=λq h3 h7' h6q h7q a' h=>by
   refine ⟨c,h,hG,?_,⟨λi hi ho=>hch.is i hi (by rw [g8 (by omega)] at ho;exact ho),λi j hi hj hne ho ho'=>hch.ne i j hi hj hne (by rw [g8 (by omega)] at ho;exact ho) (by rw [g8 (by omega)] at ho';exact ho')⟩,λh6=>?_,λh7'' j hj=>?_,λj hj=>by rw [g8 (by omega)];exact h8 j hj⟩
   ·unfold cnt at hsz ⊢;rw [g8 (show q≠0 by omega),g8 (show q≠1 by omega),g8 (show q≠2 by omega)];exact hsz
   ·by_cases e:q=6
    ·exact Br.C0 (h6q e)
    ·rw [g8 e] at h6;exact Br.C0 (h65 h6)
   ·by_cases e:q=7
    ·exact Br.C0 (h7q e j hj)
    ·rw [g8 e] at h7'';exact Br.C0 (h7 h7'' j hj)
  have hlt:=Br.G8 hi;have hz:C7.size=10:=by kernel_rfl
  rw [hz] at hlt;have hcs:q=0\/q=1\/q=2\/q=3\/q=4\/q=5\/q=6\/q=7\/q=8\/q=9:=by omega
  rcases hcs with rfl|rfl|rfl|rfl|rfl|rfl|rfl|rfl|rfl|rfl
  ·have hi2:=M4 hi;have hcn:cnt (listed.setIfInBounds 0 true)=cnt listed+1:=by
    have hn:=Br.P8 hi;unfold cnt;simp only [hn,hi2,g8 (show 0≠1 by omega),g8 (show 0≠2 by omega)];simp only [if_true,if_false,Bool.false_eq_true]
    try omega
   have hoff7:listed.getD 7 false=false:=by
    cases e:listed.getD 7 false with
    | false=>rfl
    | true=>rw [h7 e 0 (by omega)] at hi2;cases hi2
   obtain ⟨o,ho,hop,hg⟩:∃ o,C7[0]?=some o/\o.op=.makeChan 108 (.const (.int .i64 0))/\o.guard=none:=⟨_,rfl,rfl,rfl⟩;have hG2:=M5 hG.clear (ob:=.chan 0 #[] false 0 0 false) trivial
   have hA2:=(hA.val (V':=a4U bk p kd A B (λq=>if q=0 then w.heap.size else c q) bo) (λq hq=>by
    have hq8:q<8:=by
     rcases Nat.lt_or_ge q 8 with h|h
     ·exact h
     ·rw [h8 q h] at hq;cases hq
    have hcs:q=0\/q=1\/q=2\/q=3\/q=4\/q=5\/q=6\/q=7:=by omega
    rcases hcs with rfl|rfl|rfl|rfl|rfl|rfl|rfl|rfl<;>first|rfl|(rw [hi2] at hq;cases hq)|(rw [hoff7] at hq;cases hq))).put Z0 ho (v:=.chan (some w.heap.size)) (by simp [a4U])
   exact λd=>a1t ho hg (by decide) (λd=>(a4V hop).1) (λd=>(a4V hop).2) (λd=>hIH (_,w.alloc (.chan 0 #[] false 0 0 false)) ⟨_,hA2,hG.trans hG2,by rw [hcn];simp;omega,hch.add hG.size (λq hq=>by
    by_cases e:q=0
    ·exact .inl e
    ·rw [g8 (Ne.symm e)] at hq;exact .inr hq),λh=>(by rw [g8 (by omega)] at h ⊢;exact h65 h),λh=>(by rw [g8 (by omega),hoff7] at h;cases h),λq hq=>by rw [g8 (by omega)];exact h8 q hq⟩ d) d
  ·have hi2:=M4 hi;have hcn:cnt (listed.setIfInBounds 1 true)=cnt listed+1:=by
    have hn:=Br.P8 hi;unfold cnt;simp only [hn,hi2,g8 (show 1≠2 by omega),g8 (show 1≠0 by omega)];simp only [if_true,if_false,Bool.false_eq_true]
    try omega
   have hoff7:listed.getD 7 false=false:=by
    cases e:listed.getD 7 false with
    | false=>rfl
    | true=>rw [h7 e 1 (by omega)] at hi2;cases hi2
   obtain ⟨o,ho,hop,hg⟩:∃ o,C7[1]?=some o/\o.op=.makeChan 108 (.const (.int .i64 0))/\o.guard=none:=⟨_,rfl,rfl,rfl⟩;have hG2:=M5 hG.clear (ob:=.chan 0 #[] false 0 0 false) trivial
   have hA2:=(hA.val (V':=a4U bk p kd A B (λq=>if q=1 then w.heap.size else c q) bo) (λq hq=>by
    have hq8:q<8:=by
     rcases Nat.lt_or_ge q 8 with h|h
     ·exact h
     ·rw [h8 q h] at hq;cases hq
    have hcs:q=0\/q=1\/q=2\/q=3\/q=4\/q=5\/q=6\/q=7:=by omega
    rcases hcs with rfl|rfl|rfl|rfl|rfl|rfl|rfl|rfl<;>first|rfl|(rw [hi2] at hq;cases hq)|(rw [hoff7] at hq;cases hq))).put Z0 ho (v:=.chan (some w.heap.size)) (by simp [a4U])
   exact λd=>a1t ho hg (by decide) (λd=>(a4V hop).1) (λd=>(a4V hop).2) (λd=>hIH (_,w.alloc (.chan 0 #[] false 0 0 false)) ⟨_,hA2,hG.trans hG2,by rw [hcn];simp;omega,hch.add hG.size (λq hq=>by
    by_cases e:q=1
    ·exact .inl e
    ·rw [g8 (Ne.symm e)] at hq;exact .inr hq),λh=>(by rw [g8 (by omega)] at h ⊢;exact h65 h),λh=>(by rw [g8 (by omega),hoff7] at h;cases h),λq hq=>by rw [g8 (by omega)];exact h8 q hq⟩ d) d
  ·have hi2:=M4 hi;have hcn:cnt (listed.setIfInBounds 2 true)=cnt listed+1:=by
    have hn:=Br.P8 hi;unfold cnt;simp only [hn,hi2,g8 (show 2≠0 by omega),g8 (show 2≠1 by omega)];simp only [if_true,if_false,Bool.false_eq_true]
    try omega
   have hoff7:listed.getD 7 false=false:=by
    cases e:listed.getD 7 false with
    | false=>rfl
    | true=>rw [h7 e 2 (by omega)] at hi2;cases hi2
   obtain ⟨o,ho,hop,hg⟩:∃ o,C7[2]?=some o/\o.op=.makeChan 108 (.const (.int .i64 0))/\o.guard=none:=⟨_,rfl,rfl,rfl⟩;have hG2:=M5 hG.clear (ob:=.chan 0 #[] false 0 0 false) trivial
   have hA2:=(hA.val (V':=a4U bk p kd A B (λq=>if q=2 then w.heap.size else c q) bo) (λq hq=>by
    have hq8:q<8:=by
     rcases Nat.lt_or_ge q 8 with h|h
     ·exact h
     ·rw [h8 q h] at hq;cases hq
    have hcs:q=0\/q=1\/q=2\/q=3\/q=4\/q=5\/q=6\/q=7:=by omega
    rcases hcs with rfl|rfl|rfl|rfl|rfl|rfl|rfl|rfl<;>first|rfl|(rw [hi2] at hq;cases hq)|(rw [hoff7] at hq;cases hq))).put Z0 ho (v:=.chan (some w.heap.size)) (by simp [a4U])
   exact λd=>a1t ho hg (by decide) (λd=>(a4V hop).1) (λd=>(a4V hop).2) (λd=>hIH (_,w.alloc (.chan 0 #[] false 0 0 false)) ⟨_,hA2,hG.trans hG2,by rw [hcn];simp;omega,hch.add hG.size (λq hq=>by
    by_cases e:q=2
    ·exact .inl e
    ·rw [g8 (Ne.symm e)] at hq;exact .inr hq),λh=>(by rw [g8 (by omega)] at h ⊢;exact h65 h),λh=>(by rw [g8 (by omega),hoff7] at h;cases h),λq hq=>by rw [g8 (by omega)];exact h8 q hq⟩ d) d
  ·obtain ⟨o,ho,hop,hg⟩:∃ o,C7[3]?=some o/\o.op=.move (.tmp 0)/\o.guard=none:=⟨_,rfl,rfl,rfl⟩;have e0:a.eval (.tmp 0)=.pointer (some ⟨bk,0,none⟩):=hA.base (by kernel_rfl) b0;exact λd=>u7 ho hg (by decide) (by rw [hop];rfl) hG.clear (v:=.pointer (some ⟨bk,0,none⟩)) (λd=>w8 hop e0) (λd=>hIH (_,w) (keep 3 (by omega) (by omega) (λe=>by omega) (λe=>by omega) _ (hA.put Z0 ho rfl)) d) d
  ·obtain ⟨o,ho,hop,hg⟩:∃ o,C7[4]?=some o/\o.op=.move (.tmp 1)/\o.guard=none:=⟨_,rfl,rfl,rfl⟩;have e1:a.eval (.tmp 1)=.int .i64 p:=hA.base (by kernel_rfl) b1;exact λd=>u7 ho hg (by decide) (by rw [hop];rfl) hG.clear (v:=.int .i64 p) (λd=>w8 hop e1) (λd=>hIH (_,w) (keep 4 (by omega) (by omega) (λe=>by omega) (λe=>by omega) _ (hA.put Z0 ho rfl)) d) d
  ·obtain ⟨o,ho,hop,hg⟩:∃ o,C7[5]?=some o/\o.op=.load 38 (.tmp 5)/\o.guard=none:=⟨_,rfl,rfl,rfl⟩;have e5:a.eval (.tmp 5)=.pointer (some ⟨bx,0,none⟩):=hA.base (by kernel_rfl) b5;exact λd=>u7 ho hg (by decide) (by rw [hop];rfl) hG.clear (v:=.agg #[.int .i64 kd,.int .i64 A,.int .i64 B]) (λd=>by have z0:(w.at d).cell? ⟨bx,0,none⟩=_:=y0;have z1:(w.at d).cell? ⟨bx,1,none⟩=_:=y1;have z2:(w.at d).cell? ⟨bx,2,none⟩=_:=y2;unfold execOp;simp only [hop,e5];go_simp) (λd=>hIH (_,w) (keep 5 (by omega) (by omega) (λe=>by omega) (λe=>by omega) _ (hA.put Z0 ho rfl)) d) d
  ·obtain ⟨o,ho,hop,hg⟩:∃ o,C7[6]?=some o/\o.op=.build 70 #[(0,.tmp 13)]/\o.guard=none:=⟨_,rfl,rfl,rfl⟩;have e13:a.eval (.tmp 13)=.agg #[.int .i64 kd,.int .i64 A,.int .i64 B]:=hA.tmp (j:=5) rfl rfl (Br.f9 hi rfl (by kernel_rfl)) (by omega) rfl;exact λd=>u7 ho hg (by decide) (by rw [hop];rfl) hG.clear (v:=.agg #[.int .i64 kd,.int .i64 A,.int .i64 B,.int .i64 0,.int .i64 0]) (λd=>by unfold execOp;simp only [hop,List.map_toArray,List.map_cons,List.map_nil,e13];go_simp) (λd=>hIH (_,w) (keep 6 (by omega) (by omega) (λ_=>Br.f9 hi rfl (by kernel_rfl)) (λe=>by omega) _ (hA.put Z0 ho rfl)) d) d
  ·obtain ⟨o,ho,hop,hg⟩:∃ o,C7[7]?=some o/\o.op=.build 111 #[(0,.tmp 8),(1,.tmp 9),(2,.tmp 10),(3,.tmp 11),(4,.tmp 12),(5,.tmp 14)]/\o.guard=none:=⟨_,rfl,rfl,rfl⟩;have e8:a.eval (.tmp 8)=.chan (some (c 0)):=hA.tmp (j:=0) rfl rfl (Br.f9 hi rfl (by kernel_rfl)) (by omega) rfl;have e9:a.eval (.tmp 9)=.chan (some (c 1)):=hA.tmp (j:=1) rfl rfl (Br.f9 hi rfl (by kernel_rfl)) (by omega) rfl;have e10:a.eval (.tmp 10)=.chan (some (c 2)):=hA.tmp (j:=2) rfl rfl (Br.f9 hi rfl (by kernel_rfl)) (by omega) rfl;have e11:a.eval (.tmp 11)=.pointer (some ⟨bk,0,none⟩):=hA.tmp (j:=3) rfl rfl (Br.f9 hi rfl (by kernel_rfl)) (by omega) rfl;have e12:a.eval (.tmp 12)=.int .i64 p:=hA.tmp (j:=4) rfl rfl (Br.f9 hi rfl (by kernel_rfl)) (by omega) rfl;have e14:a.eval (.tmp 14)=.agg #[.int .i64 kd,.int .i64 A,.int .i64 B,.int .i64 0,.int .i64 0]:=hA.tmp (j:=6) rfl rfl (Br.f9 hi rfl (by kernel_rfl)) (by omega) rfl;have l6:listed.getD 6 false=true:=Br.f9 hi rfl (by kernel_rfl);have l0:listed.getD 0 false=true:=Br.f9 hi rfl (by kernel_rfl);have l1:listed.getD 1 false=true:=Br.f9 hi rfl (by kernel_rfl);have l2:listed.getD 2 false=true:=Br.f9 hi rfl (by kernel_rfl);have l3:listed.getD 3 false=true:=Br.f9 hi rfl (by kernel_rfl);have l4:listed.getD 4 false=true:=Br.f9 hi rfl (by kernel_rfl);have l5:=h65 l6;have lall:∀ j,j<=6->listed.getD j false=true:=λj hj=>by (have hcs:j=0\/j=1\/j=2\/j=3\/j=4\/j=5\/j=6:=by omega);rcases hcs with rfl|rfl|rfl|rfl|rfl|rfl|rfl<;>assumption
   exact λd=>u7 ho hg (by decide) (by rw [hop];rfl) hG.clear (v:=.agg (a8J bk p kd A B c)) (λd=>by unfold execOp;simp only [hop,List.map_toArray,List.map_cons,List.map_nil,e8,e9,e10,e11,e12,e14];go_simp;rfl) (λd=>hIH (_,w) (keep 7 (by omega) (by omega) (λe=>by omega) (λ_=>lall) _ (hA.put Z0 ho rfl)) d) d
  ·obtain ⟨o,ho,hop,hg⟩:∃ o,C7[8]?=some o/\o.op=.box 111 (.tmp 15)/\o.guard=none:=⟨_,rfl,rfl,rfl⟩;have l7:listed.getD 7 false=true:=Br.f9 hi rfl (by kernel_rfl);have lall:=h7 l7;have e15:a.eval (.tmp 15)=.agg (a8J bk p kd A B c):=hA.tmp (j:=7) rfl rfl l7 (by omega) rfl;have hs3:w.heap.size=bo:=by
    rw [hsz,hbo];unfold cnt;rw [lall 0 (by omega),lall 1 (by omega),lall 2 (by omega)];rfl
   have hG2:=M5 hG.clear (ob:=.cells (a8J bk p kd A B c) 111 (0,0)) trivial;have hrun:∀ d,(execOp a.eval o).run Tryd.prog (w.at d)=.ok (.value (.pointer (some ⟨bo,0,none⟩))) ((w.at d).alloc (.cells (a8J bk p kd A B c) 111 (0,0)))/\(execOp a.eval o).events Tryd.prog (w.at d) #[]=#[]:=λd=>by
    unfold execOp a8J at *;simp only [hop,e15];constructor
    ·go_simp
    ·simp [go_sem]
   have hA2:=hA.put Z0 ho (v:=.pointer (some ⟨bo,0,none⟩)) rfl;refine λd=>a1t ho hg (by decide) (λd=>(hrun d).1) (λd=>(hrun d).2) (λd=>?_) d;refine b8Y h19 hG2.clear k cs (hfin c _ (hG.trans hG2) (by simp;omega) (⟨λi hi _=>?_,λi j hi hj hne _ _=>hch.ne i j hi hj hne (lall i (by omega)) (lall j (by omega))⟩) ?_) _ _ _ _ hO ⟨hA2,λj hj=>?_⟩ d
   ·exact (hch.grow hG2).is i hi (lall i (by omega))
   ·rw [← hs3];exact heap_alloc_new w _
   ·have hcs:j<=6\/j=7\/j=8:=by omega
    rcases hcs with h|rfl|rfl
    ·exact Br.C0 (lall j h)
    ·exact Br.C0 l7
    ·exact Br.P8 hi
  ·exact (Br.B6 hi rfl (j:=8) (h8 8 (by omega)) (by kernel_rfl)).elim
 ·obtain ⟨a,w⟩:=aw;obtain ⟨c,hA,hG,hsz,hch,h65,h7,h8⟩:=hA2;exact absurd (Br.G9 (by kernel_rfl) hA.len hr 8 (by show 8<10;omega)) (by rw [h8 8 (by omega)];simp)
end
end Go.Proofs.YtcgabodkegcpgaaDoor
namespace Go.Proofs.YtcgabodkegcpgaaDoor
open Go.Conc Go.RowKit
open Br (X XP OpD KO SO SP sfO Lk Fit Must DL Liv Clear)
noncomputable def b6s:Code :=
 match Tryd.f41.body with
 | some (.seq c _)=>c
 | _=>.skip
noncomputable def a3W:Code :=
 match Tryd.f41.body with
 | some (.seq _ (.seq _ c))=>c
 | _=>.skip
noncomputable def a1u:Code:=(Tryd.f41.body).getD .skip
theorem a9V (k0 x y:Value):Frame.enter Tryd.prog 41 #[k0,x,y] .normal=(base 41).at ⟨#[k0,x,y,undef,undef,undef,undef,undef,undef,undef,undef,undef,undef,undef,undef,undef,undef,undef,undef],[]⟩ [.code a1u]:=by
 rw [enter_at (c:=a1u) _ Tryd.func41 rfl];refine congrArg (λt=>(base 41).at ⟨t,[]⟩ [.code a1u]) ?_
 kernel_rfl
theorem b6t:a1u=.seq b6s (.seq (.region 1 C7 true) a3W):=by
 unfold a1u b6s C7 a3W;simp only [Tryd.f41,Option.getD_some]
section
variable {kb:Kb} {l:List OpD} {K:Ker} {L:Nat->Option Lv} {r:Nat} {Inb:Nat->Option Seat} {nG:Nat} {w:World} {v:Lv} {Final:Machine->Trace->Prop}
theorem c0A (co:Co kb l K L r Inb nG w)(h0:0<nG){p:Nat}(hp:p<K.nS)(kd A B:Int)(fr:Frame)(cs:List Frame)
  (hx:∀ w' (C:Ctx) H Inb',C.slot=(p:Int)->C.kd=kd->C.A=A->C.B=B->OnK kb C->C.o.gid=nG->Co kb (C.o::l) K (ConcN.upd L nG (some ⟨C,A8 C p,[C.o.bo],H,[H6 C.o,bot]⟩)) r Inb' (nG+1) w'->Kp kb L w (ConcN.upd L nG (some ⟨C,A8 C p,[C.o.bo],H,[H6 C.o,bot]⟩)) w'->X Tryd.prog Final (C.o::l) Inb' (nG+1) 0 (G (fr.finish (pO C.o)) cs) w')
  {c:Nat->Nat}{w2:World}{bo:Nat}(hG:Grown w w2)(hN:New w.heap.size ⟨⟨nG,bo,c 0,c 1,c 2⟩,p,kd,A,B,kb.bk,kb.bf,kb.bs,kb.bd⟩ w2)(t5:Value) :
  X Tryd.prog Final (⟨nG,bo,c 0,c 1,c 2⟩ :: l) Inb nG 0 (G ((base 41).at ⟨#[.pointer (some ⟨kb.bk,0,none⟩),.int .i64 p,.agg #[.int .i64 kd,.int .i64 A,.int .i64 B],undef,undef,t5,.pointer none,.pointer (some ⟨bo,0,none⟩),.chan (some (c 0)),.chan (some (c 1)),.chan (some (c 2)),.pointer (some ⟨kb.bk,0,none⟩),.int .i64 p,.agg #[.int .i64 kd,.int .i64 A,.int .i64 B],.agg #[.int .i64 kd,.int .i64 A,.int .i64 B,.int .i64 0,.int .i64 0],.agg (a8J kb.bk p kd A B c),.pointer (some ⟨bo,0,none⟩),undef,undef],[]⟩ [.code a3W]) (fr::cs)) w2:=by
 have back:∀ d H Inb',Co kb (⟨nG,bo,c 0,c 1,c 2⟩ :: l) K (ConcN.upd L nG (some ⟨⟨⟨nG,bo,c 0,c 1,c 2⟩,p,kd,A,B,kb.bk,kb.bf,kb.bs,kb.bd⟩,A8 ⟨⟨nG,bo,c 0,c 1,c 2⟩,p,kd,A,B,kb.bk,kb.bf,kb.bs,kb.bd⟩ p,[bo],H,[H6 ⟨nG,bo,c 0,c 1,c 2⟩,bot]⟩)) r Inb' (nG+1) (w2.at d)->Kp kb L w (ConcN.upd L nG (some ⟨⟨⟨nG,bo,c 0,c 1,c 2⟩,p,kd,A,B,kb.bk,kb.bf,kb.bs,kb.bd⟩,A8 ⟨⟨nG,bo,c 0,c 1,c 2⟩,p,kd,A,B,kb.bk,kb.bf,kb.bs,kb.bd⟩ p,[bo],H,[H6 ⟨nG,bo,c 0,c 1,c 2⟩,bot]⟩)) (w2.at d)->X Tryd.prog Final (⟨nG,bo,c 0,c 1,c 2⟩ :: l) Inb' (nG+1) 0 (G (fr.finish (.pointer (some ⟨bo,0,none⟩))) cs) (w2.at d):=λd H Inb' h1 h2=>hx (w2.at d) ⟨⟨nG,bo,c 0,c 1,c 2⟩,p,kd,A,B,kb.bk,kb.bf,kb.bs,kb.bd⟩ H Inb' rfl rfl rfl rfl ⟨rfl,rfl,rfl,rfl⟩ rfl h1 h2;have hc:=hG.clear;unfold a3W;simp only [Tryd.f41,pO] at *;refine Br.a0m (st:=true) ?_;show Must Tryd.prog true (DL true (sfO (⟨nG,bo,c 0,c 1,c 2⟩ :: l))) _ _ (w2.at w2.drawn);generalize w2.drawn=dz;refine Br.b8 (λd=>?_) _;refine Br.b9 (λd=>?_) _;simp only [Br.rz,Br.ix,Nat.reduceAdd];refine Br.mo rfl rfl λd K' hK=>?_;go_simp;refine hK _ _ ⟨rfl,?_⟩;clear hK K';refine .stop ?_;refine b8V (C:=⟨⟨nG,bo,c 0,c 1,c 2⟩,p,kd,A,B,kb.bk,kb.bf,kb.bs,kb.bd⟩) co (hG.at d) ⟨hN.bo,hN.ch,hN.row,hN.chan,hN.ne⟩ ⟨rfl,rfl,rfl,rfl⟩ rfl h0 rfl hp rfl (λd'=>(stepG_spawn (d:=dcall 63 #[pO ⟨nG,bo,c 0,c 1,c 2⟩]) (w':=(w2.at d).at d') rfl rfl (by decide) (by simp [go_sem,execOp,resolve,Deferred.ofValue,dcall,Act.eval]) rfl).trans (congrArg (λes=>GStep.spawn _ _ _ es) (listed_none (by simp [go_sem,execOp,resolve,Deferred.ofValue,Act.eval])))) (λd' H Inb' h1 h2=>?_);have back':=back d' H Inb' h1 h2;have fin:∀ d,X Tryd.prog Final (⟨nG,bo,c 0,c 1,c 2⟩ :: l) Inb' (nG+1) 0 (G (fr.finish (.pointer (some ⟨bo,0,none⟩))) cs) (w2.at d):=λd=>back d H Inb' (h1.at d) (λk hM=>by obtain ⟨m1,m2⟩:=h2 k hM;exact ⟨⟨m1.lt,m1.nf,m1.ns,m1.nd,m1.own⟩,m2⟩);clear back back' h1 h2;refine Br.a0m (st:=true) ?_;show Must Tryd.prog true (DL true (sfO (⟨nG,bo,c 0,c 1,c 2⟩ :: l))) _ _ (w2.at d');simp only [Act.put];refine Br.a9 (λd=>?_) _;refine Br.b8 (λd=>?_) _;refine Br.b9 (λd=>?_) _;simp only [Br.rz,Br.ix,Nat.reduceAdd];(iterate 2(refine Br.mo rfl rfl λd K' hK=>?_;go_simp;refine hK _ _ ⟨rfl,?_⟩;clear hK K'));refine Br.a9 (λd=>?_) _;refine Br.q8 (λd=>?_) _;exact Br.m8 (v:=.pointer (some ⟨bo,0,none⟩)) rfl rfl Tryd.func41 (resultsC_tmp (t:=6) rfl _) (w:=w2) (λd=>.stop (fin d)) _
theorem b1g (co:Co kb l K L r Inb nG w)(h0:0<nG){p:Nat}(hp:p<K.nS)(kd A B:Int)(fr:Frame)(cs:List Frame)
  (hx:∀ w' (C:Ctx) H Inb',C.slot=(p:Int)->C.kd=kd->C.A=A->C.B=B->OnK kb C->C.o.gid=nG->Co kb (C.o::l) K (ConcN.upd L nG (some ⟨C,A8 C p,[C.o.bo],H,[H6 C.o,bot]⟩)) r Inb' (nG+1) w'->Kp kb L w (ConcN.upd L nG (some ⟨C,A8 C p,[C.o.bo],H,[H6 C.o,bot]⟩)) w'->X Tryd.prog Final (C.o::l) Inb' (nG+1) 0 (G (fr.finish (pO C.o)) cs) w') :
  X Tryd.prog Final l Inb nG 0 (G (Frame.enter Tryd.prog 41 #[.pointer (some ⟨kb.bk,0,none⟩),.int .i64 p,.agg #[.int .i64 kd,.int .i64 A,.int .i64 B]] .normal) (fr::cs)) w:=by
 have mid:∀ W,Grown w W->W.heap[w.heap.size]?=some (.cells #[.int .i64 kd,.int .i64 A,.int .i64 B] 38 (0,0))->W.heap.size=w.heap.size+1->∀ d,X Tryd.prog Final l Inb nG 0 (G ((base 41).at ⟨#[.pointer (some ⟨kb.bk,0,none⟩),.int .i64 p,.agg #[.int .i64 kd,.int .i64 A,.int .i64 B],undef,undef,.pointer (some ⟨w.heap.size,0,none⟩),.pointer none,undef,undef,undef,undef,undef,undef,undef,undef,undef,undef,undef,undef],[]⟩ [.code (.region 1 C7 true),.code a3W]) (fr::cs)) (W.at d):=by
  intro W hg hX hz d;have xc:∀ (j:Nat) (x:Value),(#[Value.int .i64 kd,.int .i64 A,.int .i64 B]:Array Value)[j]?=some x->W.cell? ⟨w.heap.size,j,none⟩=some x:=λj x h=>by simp only [World.cell?,hX];simpa using h
  refine Br.c1O (W.heap.size+3) (by show W.heap.size<=_;omega) ?_;refine Br.b2S (st:=false) (λe=>by cases e) ?_;show Must Tryd.prog true (DL false (sfO l)) _ _ (W.at d);refine a1y (λt d=>?_) d;refine b8Z (bk:=kb.bk) (bx:=w.heap.size) (bo:=W.heap.size+3) (p:=p) (kd:=kd) (A:=A) (B:=B) (W:=W) (tb:=#[.pointer (some ⟨kb.bk,0,none⟩),.int .i64 p,.agg #[.int .i64 kd,.int .i64 A,.int .i64 B],undef,undef,.pointer (some ⟨w.heap.size,0,none⟩),.pointer none,undef,undef,undef,undef,undef,undef,undef,undef,undef,undef,undef,undef]) rfl rfl rfl rfl rfl (by omega) (xc 0 _ rfl) (xc 1 _ rfl) (xc 2 _ rfl) _ _ (λc w2 hG2 hs2 hch hrow d=>?_) _ _ (⟨#[.pointer (some ⟨kb.bk,0,none⟩),.int .i64 p,.agg #[.int .i64 kd,.int .i64 A,.int .i64 B],undef,undef,.pointer (some ⟨w.heap.size,0,none⟩),.pointer none,undef,undef,undef,undef,undef,undef,undef,undef,undef,undef,undef,undef],[]⟩,W) _ (Br.X8 (by kernel_rfl) C7 t) ⟨λ_=>0,Br.Agr.start _ _ _,Grown.refl hg.clear,?_,⟨λi hi h=>?_,λi j hi hj hne h=>?_⟩,λh=>?_,λh=>?_,λj _=>I3 _ _⟩ d
  ·generalize hbo:W.heap.size+3=bo at *;rw [show Br.fill C7 (a4U kb.bk p kd A B c bo) #[.pointer (some ⟨kb.bk,0,none⟩),.int .i64 p,.agg #[.int .i64 kd,.int .i64 A,.int .i64 B],undef,undef,.pointer (some ⟨w.heap.size,0,none⟩),.pointer none,undef,undef,undef,undef,undef,undef,undef,undef,undef,undef,undef,undef]=#[.pointer (some ⟨kb.bk,0,none⟩),.int .i64 p,.agg #[.int .i64 kd,.int .i64 A,.int .i64 B],undef,undef,.pointer (some ⟨w.heap.size,0,none⟩),.pointer none,.pointer (some ⟨bo,0,none⟩),.chan (some (c 0)),.chan (some (c 1)),.chan (some (c 2)),.pointer (some ⟨kb.bk,0,none⟩),.int .i64 p,.agg #[.int .i64 kd,.int .i64 A,.int .i64 B],.agg #[.int .i64 kd,.int .i64 A,.int .i64 B,.int .i64 0,.int .i64 0],.agg (a8J kb.bk p kd A B c),.pointer (some ⟨bo,0,none⟩),undef,undef] from by kernel_rfl];refine Br.a9 (λd=>?_) _;refine .stop ?_;have hgt:w.heap.size<=bo:=by omega
   have hN:New w.heap.size ⟨⟨nG,bo,c 0,c 1,c 2⟩,p,kd,A,B,kb.bk,kb.bf,kb.bs,kb.bd⟩ (w2.at d):=by
    have hh:=λi hi=>hch.is i hi trivial;refine ⟨hgt,⟨by have:=(hh 0 (by omega)).1;show w.heap.size<=c 0;omega,by have:=(hh 1 (by omega)).1;show w.heap.size<=c 1;omega,by have:=(hh 2 (by omega)).1;show w.heap.size<=c 2;omega⟩,⟨111,hrow⟩,λx hx=>?_,hch.ne 0 1 (by omega) (by omega) (by omega) trivial trivial,hch.ne 0 2 (by omega) (by omega) (by omega) trivial trivial,hch.ne 1 2 (by omega) (by omega) (by omega) trivial trivial⟩;rcases hx with rfl|rfl|rfl
    ·exact (hh 0 (by omega)).2.2
    ·exact (hh 1 (by omega)).2.2
    ·exact (hh 2 (by omega)).2.2
   refine Br.c0H ⟨nG,bo,c 0,c 1,c 2⟩ hN.ko (λi s x hi hs e=>?_) (c0A co h0 hp kd A B fr cs hx ((hg.trans hG2).at d) hN _)
   by_cases ei:i=0
   ·subst ei;have:=co.main0 s x hi hs;have e':bo=x:=e;omega
   ·obtain ⟨u,hu,rfl⟩:=co.inb ei hi;have:=co.ch_lt hu (c:=x) (by rcases O0 hs with h|h;exact .inl h;exact .inr (.inr h));have e':bo=x:=e;omega
  ·show W.heap.size=W.heap.size+cnt _;unfold cnt;rw [I3,I3,I3];rfl
  ·rw [I3] at h;cases h
  ·rw [I3] at h;cases h
  ·rw [I3] at h;cases h
  ·rw [I3] at h;cases h
 rw [a9V,b6t];unfold b6s;simp only [Tryd.f41];refine Br.a0m (st:=true) ?_;show Must Tryd.prog true (DL true (sfO l)) _ _ (w.at w.drawn);generalize w.drawn=dz;have hc:=co.env.fit.clear;refine Br.b8 (λd=>?_) _;refine Br.b9 (λd=>?_) _;simp only [Br.rz,Br.ix,Nat.reduceAdd];refine Br.t8 rfl rfl (by decide) (λd K' hK=>?_) _;go_simp;refine hK _ _ ⟨Br.L7 (λe he=>?_),?_⟩
 ·have hm:=mem_listed he;simp [go_sem] at hm
 clear hK K';refine a6k trivial hc (λW hg hX hz d=>?_);have hc2:=hg.clear;refine Br.mo rfl rfl λd K' hK=>?_;go_simp;refine hK _ _ ⟨rfl,?_⟩;clear hK K';refine Br.a9 (λd=>?_) _;refine Br.b8 (λd=>?_) _;exact .stop (mid W hg hX hz _)
end
end Go.Proofs.YtcgabodkegcpgaaDoor
namespace Go.Proofs.YtcgabodkegcpgaaDoor
open Go.Conc Go.RowKit
open Br (OpD KO SO SP sfO Lk Fit Must DL Liv Clear X)
attribute [local go_sem ↓] Go.wp_at_zero Go.wp_at_succ
structure Lb where
 bl:Nat
 bu:Nat
 bn:Nat
def c0B:Option OpD->Value
 | none=>.pointer none
 | some o=>pO o
def X2 (w:World)(b n:Nat)(f:Nat->Value):Prop:=∃ c t,w.heap[b]?=some (.cells c t (0,0))/\c.size=n/\∀ p,p<n->c[p]?=some (f p)
theorem X2.cell {w:World}{b n:Nat}{f:Nat->Value}(h:X2 w b n f){p:Nat}(hp:p<n):w.cell? ⟨b,p,none⟩=some (f p):=by
 obtain ⟨c,t,h1,h2,h3⟩:=h;simp only [World.cell?,h1];simpa using h3 p hp
theorem X2.frozen {w:World}{b n:Nat}{f:Nat->Value}(h:X2 w b n f)(p:Nat):w.frozen? ⟨b,p,none⟩=false:=by
 obtain ⟨c,t,h1,h2,h3⟩:=h;simp [World.frozen?,h1]
theorem X2.of {w w':World}{b n:Nat}{f:Nat->Value}(h:X2 w b n f)(e:w'.heap[b]?=w.heap[b]?):X2 w' b n f:=by
 obtain ⟨c,t,h1,h2,h3⟩:=h;exact ⟨c,t,by rw [e];exact h1,h2,h3⟩
theorem X2.lt {w:World}{b n:Nat}{f:Nat->Value}(h:X2 w b n f):b<w.heap.size:=by
 obtain ⟨c,t,h1,h2,h3⟩:=h;exact (Array.getElem?_eq_some_iff.1 h1).1
theorem X2.set {w:World}{b n:Nat}{f:Nat->Value}(h:X2 w b n f){p:Nat}(hp:p<n)(x:Value):X2 (w.setCell ⟨b,p,none⟩ x) b n (λq=>if q=p then x else f q):=by
 obtain ⟨c,t,h1,h2,h3⟩:=h;refine ⟨_,t,a4g c t p x w b h1,by simp [h2],λq hq=>?_⟩
 by_cases e:q=p
 ·subst e;simp [h2,hp]
 ·simp only [e,if_false];rw [Array.getElem?_setIfInBounds_ne (Ne.symm e)];exact h3 q hq
structure LibIs (w:World) (b:Lb) (bk n B0:Nat) (U:Nat->Option OpD) (V:Nat->Value) (N:Nat->Nat) (Xs:Nat->List Value):Prop where
 k0:w.cell? ⟨b.bl,0,none⟩=some (.pointer (some ⟨bk,0,none⟩))
 k1:w.cell? ⟨b.bl,1,none⟩=some (.slice (some ⟨b.bu,0,none⟩) n n)
 k2:w.cell? ⟨b.bl,2,none⟩=some (.slice (some ⟨b.bn,0,none⟩) n n)
 u:X2 w b.bu n (λp=>c0B (U p))
 d:X2 w b.bn n V
 own:∀ p,p<n->w.ownsRow B0 70 5 (V p) (N p) (Xs p)
 far:∀ p q,p<n->q<n->p≠q->(V p).ownBlock=none\/(V p).ownBlock≠(V q).ownBlock
 ne:b.bl≠b.bu/\b.bl≠b.bn/\b.bu≠b.bn/\b.bl<B0/\b.bu<B0/\b.bn<B0
 small:n<=6
theorem a3a (v:World)(bl bu n:Nat)(s:Int)(h1:v.cell? ⟨bl,1,none⟩=some (.slice (some ⟨bu,0,none⟩) n n)) :
  Calls Tryd.prog 40 #[.pointer (some ⟨bl,0,none⟩),.int .i64 s] v λe v'=>e=.returned (.bool (decide (0<=s) && decide (s<n)))/\v'=v:=by
 go_enter Tryd.func40,Tryd.ntmps40
 by_cases hs:0<=s
 ·have e:(decide (0<=s) && decide (s<(n:Int)))=decide (s<(n:Int)):=by simp [hs]
  rw [e]
  go_wp2_with fail
  go_ret
  exact ⟨rfl,rfl⟩
 ·have e:(decide (0<=s) && decide (s<(n:Int)))=false:=by simp [hs]
  rw [e]
  go_wp2_with fail
  go_ret
  exact ⟨rfl,rfl⟩
end Go.Proofs.YtcgabodkegcpgaaDoor
namespace Go.Proofs.YtcgabodkegcpgaaDoor.App
open Go.RowKit
theorem run_append_one {P:Program}(w:World)(base:Nat)(t ty e:TypeId)(i:TypeInfo)(z:Value)(size bytes:Nat)(ht:P.underlying t=some (.slice e))(hi:P.info? e=some i)(hz:i.zero=some z)
  (hsize:i.size=size)(hby:i.bytes=bytes)(hzs:z.cells.size=size)
  (v:Value)(n:Nat)(xs:List Value)(hown:w.ownsRow base e size v n xs)
  (a:Addr)(c:Nat)(news:List Value)(hl:news.length=size)(hnews:∀ j u,news[j]?=some u->w.cell? (a.add j)=some u)(h1:∀ u∈news,u.oneCell'=true)
  (h63:n+1<=maxLen)(hfit:Builtin.nextslicecap (n+1) n*bytes<=281474976710656)(hbase:base<=w.heap.size) :
  ∃ g cap w',(Builtin.append_ #[t,t] ty #[v,.slice (some a) 1 c]).run P w=.ok (.slice (some ⟨g,0,none⟩) (n+1) cap) w'/\w'.ownsRow base e size (.slice (some ⟨g,0,none⟩) (n+1) cap) (n+1) (xs ++ news)/\w.grownBy w' v.ownBlock/\(v.ownBlock=some g\/g=w.heap.size):=by
 subst hsize;subst hby;have hl':news.length=1*i.size:=by omega
 have hlen:(xs ++ news).length=(n+1)*i.size:=by rw [List.length_append,hown.1,hl',Nat.add_mul]
 have hsmall:n+1<=9223372036854775807:=by simp only [maxLen] at h63;omega
 have grown:∀ (old:Nat),∀ (row:Option Nat),
   (w.drew.alloc (.cells (xs.toArray ++ news.toArray ++ Builtin.zeroCells z.cells (grownCap w (n+1) old e - (n+1))) e)).ownsRow base e i.size
    (.slice (some ⟨w.heap.size,0,none⟩) (n+1) (grownCap w (n+1) old e)) (n+1) (xs ++ news) /\
   w.grownBy (w.drew.alloc (.cells (xs.toArray ++ news.toArray ++ Builtin.zeroCells z.cells (grownCap w (n+1) old e - (n+1))) e)) row:=by
  intro old row;have hge:=grownCap_ge w (n+1) old e;have hcm:grownCap w (n+1) old e<=maxLen:=grownCap_le_maxLen w (n+1) old e h63;refine ⟨⟨hlen,.inr ⟨w.heap.size,_,_,rfl,hbase,heap_alloc_new w.drew _,hge,hcm,?_,?_⟩⟩,⟨rfl,rfl,rfl,by simp,λk hk _=>Below.heap_alloc w.drew _ k hk⟩⟩
  ·simp only [Array.size_append,List.size_toArray,size_zeroCells,hzs,hown.1,hl',← Nat.add_mul]
   congr 1
   omega
  ·simp only [Array.toList_append,List.append_assoc];rw [← List.append_assoc,← hlen];exact List.take_left
 rcases hown.2 with ⟨rfl,rfl⟩|⟨g,cap,cur,rfl,hbg,hg,hnc,hcm,hcs,htake⟩
 ·have hx:xs=[]:=List.eq_nil_of_length_eq_zero (by simpa using hown.1);subst hx;have hr:=run_append_nil (P:=P) w t ty e i z ht hi hz a 1 c news hl' hnews (by omega) (by omega) (by rw [Nat.zero_add,nextslicecap_zero (by omega)] at hfit;exact hfit);have hgr:=grown 0 (Value.ownBlock (.slice none 0 0));simp only [Nat.zero_add,List.nil_append,Array.empty_append] at hgr ⊢;exact ⟨_,_,_,hr,hgr.1,hgr.2,Or.inr rfl⟩
 ·by_cases hroom:n+1<=cap
  ·have hf:n*i.size+news.length<=cur.size:=by rw [hl',hcs,← Nat.add_mul];exact Nat.mul_le_mul_right _ hroom
   have hr:=run_append_room (P:=P) w t ty e i ht hi g n cap cur hg a 1 c news hl' hnews h1 hroom hf;refine ⟨_,_,_,hr,⟨hlen,.inr ⟨g,cap,_,rfl,hbg,setRow_heap w g cur _ e _ hg,hroom,hcm,?_,?_⟩⟩,⟨rfl,rfl,rfl,by simp,λk _ hk=>setRow_other w g k _ (λe=>hk (by simp [Value.ownBlock,e]))⟩,Or.inl rfl⟩
   ·simp only [List.size_toArray,List.length_append,List.length_take,List.length_drop,Array.length_toList];omega
   ·rw [htake,← hlen];exact List.take_left
  ·obtain rfl:cap=n:=by omega
   have hr:=run_append_grow (P:=P) w t ty e i z ht hi hz ⟨g,0,none⟩ cap cap xs hown.1 (hown.cells (g:=g) rfl) a 1 c news hl' hnews (by omega) (by omega) hfit;have hgr:=grown cap (Value.ownBlock (.slice (some ⟨g,0,none⟩) cap cap));exact ⟨_,_,_,hr,hgr.1,hgr.2,Or.inr rfl⟩
end Go.Proofs.YtcgabodkegcpgaaDoor.App
