/- Books: its pieces, and its way to the loop of acts (after Cancels). No statement of the program is proved here. -/
import Derived.Test.YtcgabodkegcpgaaDoorWrk
namespace Go.Proofs.YtcgabodkegcpgaaDoor
open Go.Conc Go.RowKit
open Br (X OpD KO SO SP sfO Lk Fit Must DL Liv Clear)
set_option linter.unusedVariables false
set_option linter.unusedSimpArgs false
set_option maxHeartbeats 20000000
noncomputable def bkOps (n:Nat):Array Oper:=((Tryd.f5.body).bind (regionOf n)).getD #[]
noncomputable abbrev rb (n:Nat):Code:=.region n (bkOps n) false
noncomputable def bkAct:Code:=.block 1 (.seq (rb 12) (.seq (.seq (rb 13) (.block 2 (.seq (rb 15) (.cond (.tmp 56) (rb 16) (.seq (rb 17) (.cond (.tmp 64) (rb 18) (rb 14))))))) (.region 19 (bkOps 19) true)))
noncomputable def bkLoop:Code:=.seq (.seq (rb 10) (.cond (.tmp 39) .skip (.exit 0))) (.seq bkAct (rb 11))
noncomputable def bkEnd:Code:=.seq (rb 20) (.seq (rb 21) .ret)
noncomputable def bkBody:Code:=.seq (rb 0) (.seq (rb 1) (.seq (rb 2) (.seq (rb 3) (.seq (.seq (rb 4) (.cond (.tmp 28) (.seq (rb 5) .ret) .skip)) (.seq (rb 6) (.seq (.seq (rb 7) (.cond (.tmp 32) (.seq (rb 8) .ret) .skip)) (.seq (.seq (rb 9) (.block 0 (.loop bkLoop))) bkEnd)))))))
theorem bk_body:Tryd.f5.body=some bkBody:=by kernel_rfl
theorem lb_region {main:Bool}{sft:Nat→Nat}{Stop:Goroutine→World→Prop}{b:Frame}{a:Act}{k:List Item}{cs:List Frame}{w:World}{n m:Nat}{il:List Nat}(hr:List.range (bkOps n).size=il)(h:Liv Tryd.prog main true sft Stop (G (b.at a (.inRegion (bkOps n) il::k)) cs) w):Liv Tryd.prog main true sft Stop (G (b.at a (.code (rb n)::k)) cs) w:=Br.liv_region (by rw [hr];exact h)
set_option maxRecDepth 100000 in
theorem bk_a {Stop:Goroutine→World→Prop}{w:World}(T:Tab w){x y z:Int}{scr:Value}{a:Act}{R:Code}(hA:Lvs 77 [(0,.agg #[.int .i64 x,.int .i64 y,.int .i64 z]),(1,scr)] a)(k:List Item)(cs:List Frame)
  (hn:∀ a' w',Grown w w'→w'.heap[w.heap.size]?=some (.cells #[.int .i64 x,.int .i64 y,.int .i64 z] 30 (0,0))→Lvs 77 [(1,scr),(2,.pointer (some ⟨w.heap.size,0,none⟩)),(5,.bool true)] a'→Liv Tryd.prog true true (sfO []) Stop (G ((base 5).at a' (.code R::k)) cs) w') :
  Liv Tryd.prog true true (sfO []) Stop (G ((base 5).at a (.code (.seq (rb 0) (.seq (rb 1) R))::k)) cs) w:=by
 refine Br.liv_seq ?_
 have e0:=hA.get (t:=0) rfl
 refine lb_region (m:=0) (il:=[0,1]) (by kernel_rfl) ?_
 obtain ⟨o,ho,hop,hd,hg⟩:∃ o,(bkOps 0)[0]?=some o∧o.op=.box 30 (.tmp 0)∧o.dst=some 2∧o.guard=none:=⟨_,rfl,rfl,rfl,rfl⟩
 refine lw_made (ob:=.cells #[.int .i64 x,.int .i64 y,.int .i64 z] 30 (0,0)) (v:=.pointer (some ⟨w.heap.size,0,none⟩)) hA ho hg (by decide) hd (by decide) (fun d=>by unfold execOp;simp only [hop,e0];go_simp) (fun d=>by unfold execOp;simp only [hop,e0];simp [go_sem]) trivial (fun a (hA:Lvs 77 [(2,.pointer (some ⟨w.heap.size,0,none⟩)),(0,.agg #[.int .i64 x,.int .i64 y,.int .i64 z]),(1,scr)] a)=>?_)
 refine lw_val (v:=.bool false) hA rfl (wanted_none rfl) (by decide) (by kernel_rfl) rfl (by decide) (fun d=>run_assign rfl rfl) (fun a (hA:Lvs 77 [(4,.bool false),(2,.pointer (some ⟨w.heap.size,0,none⟩)),(0,.agg #[.int .i64 x,.int .i64 y,.int .i64 z]),(1,scr)] a)=>?_)
 refine Br.liv_region_end ?_
 have hG:=grown_alloc (w:=w) trivial (ob:=.cells #[.int .i64 x,.int .i64 y,.int .i64 z] 30 (0,0)) trivial
 have hX:=heap_alloc_new w (.cells #[.int .i64 x,.int .i64 y,.int .i64 z] 30 (0,0))
 have hlt:w.heap.size<(w.alloc (.cells #[.int .i64 x,.int .i64 y,.int .i64 z] 30 (0,0))).heap.size:=by simp
 generalize w.alloc (.cells #[.int .i64 x,.int .i64 y,.int .i64 z] 30 (0,0))=w1 at *
 refine Br.liv_seq ?_
 refine lb_region (m:=0) (il:=[0,1]) (by kernel_rfl) ?_
 refine lw_call (vs:=#[]) hA rfl rfl (by decide) rfl rfl (by decide) Tryd.func9 rfl rfl (by simp) (fun fr cs d=>must_works (T.same (hG.old 0 T.lt)) fr cs d) (fun u w2 hR a hA=>?_)
 obtain ⟨hG2,rfl⟩:=hR
 refine lw_val (v:=.bool true) hA rfl (wanted_none rfl) (by decide) (by kernel_rfl) rfl (by decide) (fun d=>run_assign rfl (hA.get rfl)) (fun a hA=>?_)
 refine Br.liv_region_end ?_
 exact hn a w2 (hG.trans hG2) ((hG2.old _ hlt).trans hX) (hA.sub (fun p hp=>by
  simp only [List.mem_cons,List.not_mem_nil,or_false] at hp
  rcases hp with rfl|rfl|rfl<;>rfl))
set_option maxRecDepth 100000 in
theorem bk_b {Stop:Goroutine→World→Prop}{w:World}{cB:Nat}{x y z:Int}{scr:Value}(hX:w.heap[cB]?=some (.cells #[.int .i64 x,.int .i64 y,.int .i64 z] 30 (0,0)))(hx:-9223372036854775808≤x∧x<9223372036854775808)(hy:-9223372036854775808≤y∧y<9223372036854775808)(hz:-9223372036854775808≤z∧z<9223372036854775808)
  {a:Act}(hA:Lvs 77 [(1,scr),(2,.pointer (some ⟨cB,0,none⟩)),(5,.bool true)] a)(k:List Item)(cs:List Frame)
  (hn:∀ a' w',w.heap.size≤w'.heap.size→(∀ k,k<w.heap.size→k≠cB→w'.heap[k]?=w.heap[k]?)→w'.heap[cB]?=some (.cells #[.int .i64 ((2+pickN x 31:Nat):Int),.int .i64 ((1+pickN y 6:Nat):Int),.int .i64 (pickN z 5:Nat)] 30 (0,0))→Lvs 77 [(1,scr),(2,.pointer (some ⟨cB,0,none⟩)),(5,.bool true)] a'→Liv Tryd.prog true true (sfO []) Stop (G ((base 5).at a' k) cs) w') :
  Liv Tryd.prog true true (sfO []) Stop (G ((base 5).at a (.code (rb 2)::k)) cs) w:=by
 have lcB:cB<w.heap.size:=(Array.getElem?_eq_some_iff.1 hX).1
 have e2:=hA.get (t:=2) rfl
 refine lb_region (m:=0) (il:=[0,1,2]) (by kernel_rfl) ?_
 have c0:∀ d,(w.at d).cell? ⟨cB,0,none⟩=some (.int .i64 x):=fun d=>by show w.cell? _=_;simp [World.cell?,hX]
 have c1:∀ d,(w.at d).cell? ⟨cB,1,none⟩=some (.int .i64 y):=fun d=>by show w.cell? _=_;simp [World.cell?,hX]
 have c2:∀ d,(w.at d).cell? ⟨cB,2,none⟩=some (.int .i64 z):=fun d=>by show w.cell? _=_;simp [World.cell?,hX]
 obtain ⟨o,ho,hop,hd,hg⟩:∃ o,(bkOps 2)[0]?=some o∧o.op=.load 30 (.tmp 2)∧o.dst=some 12∧o.guard=none:=⟨_,rfl,rfl,rfl,rfl⟩
 refine lw_val (v:=.agg #[.int .i64 x,.int .i64 y,.int .i64 z]) hA ho (wanted_none hg) (by decide) (by rw [hop];rfl) hd (by decide) (fun d=>by have z0:=c0 d;have z1:=c1 d;have z2:=c2 d;clear c0 c1 c2;unfold execOp;simp only [hop,e2];go_simp;try rfl) (fun a (hA:Lvs 77 [(12,.agg #[.int .i64 x,.int .i64 y,.int .i64 z]),(1,scr),(2,.pointer (some ⟨cB,0,none⟩)),(5,.bool true)] a)=>?_)
 clear ho hop hd hg c0 c1 c2
 have e12:=hA.get (t:=12) rfl
 refine lw_call (vs:=#[.agg #[.int .i64 x,.int .i64 y,.int .i64 z]]) hA rfl rfl (by decide) rfl rfl (by decide) Tryd.func12 rfl rfl (by simp only [List.map_toArray,List.map_cons,List.map_nil,e12]) (fun fr cs d=>must_settings hx hy hz fr cs d) (fun u w1 hR a hA=>?_)
 obtain ⟨hG,rfl⟩:=hR
 have e2:=hA.get (t:=2) rfl
 have e13:=hA.get (t:=13) rfl
 have hX1:w1.heap[cB]?=some (.cells #[.int .i64 x,.int .i64 y,.int .i64 z] 30 (0,0)):=(hG.old _ lcB).trans hX
 generalize ((2+pickN x 31:Nat):Int)=nF at *
 generalize ((1+pickN y 6:Nat):Int)=nS at *
 generalize ((pickN z 5:Nat):Int)=nD at *
 obtain ⟨o,ho,hop,hd,hg⟩:∃ o,(bkOps 2)[2]?=some o∧o.op=.store 30 (.tmp 2) (.tmp 13)∧o.dst=none∧o.guard=none:=⟨_,rfl,rfl,rfl,rfl⟩
 refine lw_skipped (R:=fun v v'=>v'=((v.setCell ⟨cB,0,none⟩ (.int .i64 nF)).setCell ⟨cB,1,none⟩ (.int .i64 nS)).setCell ⟨cB,2,none⟩ (.int .i64 nD)) hA ho hg (by decide) (by rw [hop];rfl) hd (fit_nil _) (fun d v hv=>⟨_,?_,rfl⟩) (fun d w2 v v' hv hl' hkp hR=>?_)
 ·have c0:v.cell? ⟨cB,0,none⟩=some (.int .i64 x):=by rw [hv.cell];show w1.cell? _=_;simp [World.cell?,hX1]
  have c1:v.cell? ⟨cB,1,none⟩=some (.int .i64 y):=by rw [hv.cell];show w1.cell? _=_;simp [World.cell?,hX1]
  have c2:v.cell? ⟨cB,2,none⟩=some (.int .i64 z):=by rw [hv.cell];show w1.cell? _=_;simp [World.cell?,hX1]
  have fz:∀ j,v.frozen? ⟨cB,j,none⟩=false:=fun j=>by
   rw [frozen_lk hv (sf_nil _)];show w1.frozen? _=_;simp [World.frozen?,hX1]
  clear hn hX hX1 hv
  unfold execOp
  simp only [hop,e2,e13]
  go_simp
 ·refine Br.liv_region_end ?_
  subst hR
  have sv:v.heap.size=w1.heap.size:=hv.size
  have sv':=hl'.size
  have hvX:v.heap[cB]?=some (.cells #[.int .i64 x,.int .i64 y,.int .i64 z] 30 (0,0)):=by
   rw [lk_same (w:=w1.at d) hv (sf_nil _) (.inl ⟨_,_,_,hX1⟩)];exact hX1
  have hv3:(((v.setCell ⟨cB,0,none⟩ (.int .i64 nF)).setCell ⟨cB,1,none⟩ (.int .i64 nS)).setCell ⟨cB,2,none⟩ (.int .i64 nD)).heap[cB]?=some (.cells #[.int .i64 nF,.int .i64 nS,.int .i64 nD] 30 (0,0)) :=
   row_set #[.int .i64 nF,.int .i64 nS,.int .i64 z] _ 2 _ _ cB (row_set #[.int .i64 nF,.int .i64 y,.int .i64 z] _ 1 _ _ cB (row_set #[.int .i64 x,.int .i64 y,.int .i64 z] _ 0 _ _ cB hvX))
  refine hn a w2 ?_ (fun k hk hne=>?_) ?_ (hA.sub (fun p hp=>by
   simp only [List.mem_cons,List.not_mem_nil,or_false] at hp
   rcases hp with rfl|rfl|rfl<;>rfl))
  ·have:=hkp.size;have:=hG.size
   exact Nat.le_trans hG.size hkp.size
  ·have h1:=hG.old k hk
   rw [← h1]
   refine same_block (w:=w1.at d) hkp hv hl' ?_
   have hne':cB≠k:=fun e=>hne e.symm
   rw [Br.heap_setCell,if_neg hne',Br.heap_setCell,if_neg hne',Br.heap_setCell,if_neg hne']
  ·rw [← lk_same hl' (sf_nil _) (.inr ⟨_,_,_,hv3⟩)];exact hv3
set_option maxRecDepth 100000 in
theorem bk_c {Stop:Goroutine→World→Prop}{w:World}(T:Tab w){cB nF nS nD:Nat}{scr:Value}{B R:Code}(h1:2≤nF)(h2:nF≤32)(h3:1≤nS)(h4:nS≤6)(h5:nD≤4)(hX:w.heap[cB]?=some (.cells #[.int .i64 nF,.int .i64 nS,.int .i64 nD] 30 (0,0)))
  {a:Act}(hA:Lvs 77 [(1,scr),(2,.pointer (some ⟨cB,0,none⟩)),(5,.bool true)] a)(k:List Item)(cs:List Frame)
  (hn:∀ a' w' (kb:Kb) (b:Lb),Grown w w'→w.heap.size≤kb.bk→w.heap.size≤kb.bf→w.heap.size≤kb.bs→w.heap.size≤kb.bd→(∀ r,Co kb [] (kNew nF nS nD) (fun _=>none) r (fun _=>none) 1 w')→LibM kb [] (fun _=>none) w' b (kNew nF nS nD).nS (b.bl+1) (fun _=>none) (fun _=>.slice none 0 0) (fun _=>0) (fun _=>[])→(w.heap.size≤b.bu∧w.heap.size≤b.bn) →
   Lvs 77 [(1,scr),(2,.pointer (some ⟨cB,0,none⟩)),(5,.bool true),(6,.pointer (some ⟨kb.bk,0,none⟩)),(8,.pointer (some ⟨b.bl,0,none⟩)),(9,.int .i64 0)] a'→Liv Tryd.prog true true (sfO []) Stop (G ((base 5).at a' (.code B::.code R::k)) cs) w') :
  Liv Tryd.prog true true (sfO []) Stop (G ((base 5).at a (.code (.seq (rb 3) (.seq (.seq (rb 4) (.cond (.tmp 28) (.seq (rb 5) .ret) .skip)) (.seq (rb 6) (.seq (.seq (rb 7) (.cond (.tmp 32) (.seq (rb 8) .ret) .skip)) (.seq (.seq (rb 9) B) R)))))::k)) cs) w:=by
 refine Br.liv_seq ?_
 have lcB:cB<w.heap.size:=(Array.getElem?_eq_some_iff.1 hX).1
 have c0:∀ d,(w.at d).cell? ⟨cB,0,none⟩=some (.int .i64 nF):=fun d=>by show w.cell? _=_;simp [World.cell?,hX]
 have c1:∀ d,(w.at d).cell? ⟨cB,1,none⟩=some (.int .i64 nS):=fun d=>by show w.cell? _=_;simp [World.cell?,hX]
 have c2:∀ d,(w.at d).cell? ⟨cB,2,none⟩=some (.int .i64 nD):=fun d=>by show w.cell? _=_;simp [World.cell?,hX]
 refine lb_region (n:=3) (m:=0) (il:=[0,1,2,3,4,5,6]) (by kernel_rfl) ?_
 obtain ⟨o,ho,hop,hd,hg⟩:∃ o,(bkOps 3)[0]?=some o∧o.op=.load 30 (.tmp 2)∧o.dst=some 15∧o.guard=none:=⟨_,rfl,rfl,rfl,rfl⟩
 have e2:=hA.get (t:=2) rfl
 refine lw_val (v:=.agg #[.int .i64 nF,.int .i64 nS,.int .i64 nD]) hA ho (wanted_none hg) (by decide) (by rw [hop];rfl) hd (by decide) (fun d=>by have z0:=c0 d;have z1:=c1 d;have z2:=c2 d;clear c0 c1 c2;unfold execOp;simp only [hop,e2];go_simp;try rfl) (fun a (hA:Lvs 77 [(15,.agg #[.int .i64 nF,.int .i64 nS,.int .i64 nD]),(1,scr),(2,.pointer (some ⟨cB,0,none⟩)),(5,.bool true)] a)=>?_)
 clear ho hop hd hg e2
 have e15:=hA.get (t:=15) rfl
 refine lw_call (vs:=#[.agg #[.int .i64 nF,.int .i64 nS,.int .i64 nD]]) hA rfl rfl (by decide) rfl rfl (by decide) Tryd.func10 rfl rfl (by simp only [List.map_toArray,List.map_cons,List.map_nil,e15]) (fun fr cs d=>must_knewX T nF nS nD h1 h2 h3 h4 h5 fr cs d) (fun u w' hR a hA=>?_)
 obtain ⟨kb,rfl,hG,g1,g2,g3,g4,hco⟩:=hR
 replace hA:Lvs 77 [(16,.tuple #[.pointer (some ⟨kb.bk,0,none⟩),.int .i64 0]),(15,.agg #[.int .i64 nF,.int .i64 nS,.int .i64 nD]),(1,scr),(2,.pointer (some ⟨cB,0,none⟩)),(5,.bool true)] a:=hA
 clear c0 c1 c2
 refine lw_val (v:=.tuple #[.pointer (some ⟨kb.bk,0,none⟩),.int .i64 0]) hA rfl (wanted_none rfl) (by decide) (by kernel_rfl) rfl (by decide) (fun d=>run_move rfl (hA.get rfl)) (fun a (hA:Lvs 77 [(14,.tuple #[.pointer (some ⟨kb.bk,0,none⟩),.int .i64 0]),(16,.tuple #[.pointer (some ⟨kb.bk,0,none⟩),.int .i64 0]),(15,.agg #[.int .i64 nF,.int .i64 nS,.int .i64 nD]),(1,scr),(2,.pointer (some ⟨cB,0,none⟩)),(5,.bool true)] a)=>?_)
 obtain ⟨o,ho,hop,hd,hg⟩:∃ o,(bkOps 3)[3]?=some o∧o.op=.extract (.tmp 14) 0∧o.dst=some 17∧o.guard=none:=⟨_,rfl,rfl,rfl,rfl⟩
 have e14:=hA.get (t:=14) rfl
 refine lw_val (v:=.pointer (some ⟨kb.bk,0,none⟩)) hA ho (wanted_none hg) (by decide) (by rw [hop];rfl) hd (by decide) (fun d=>by unfold execOp;simp only [hop,e14];rfl) (fun a (hA:Lvs 77 [(17,.pointer (some ⟨kb.bk,0,none⟩)),(14,.tuple #[.pointer (some ⟨kb.bk,0,none⟩),.int .i64 0]),(16,.tuple #[.pointer (some ⟨kb.bk,0,none⟩),.int .i64 0]),(15,.agg #[.int .i64 nF,.int .i64 nS,.int .i64 nD]),(1,scr),(2,.pointer (some ⟨cB,0,none⟩)),(5,.bool true)] a)=>?_)
 clear ho hop hd hg e14
 obtain ⟨o,ho,hop,hd,hg⟩:∃ o,(bkOps 3)[4]?=some o∧o.op=.extract (.tmp 14) 1∧o.dst=some 18∧o.guard=none:=⟨_,rfl,rfl,rfl,rfl⟩
 have e14:=hA.get (t:=14) rfl
 refine lw_val (v:=.int .i64 0) hA ho (wanted_none hg) (by decide) (by rw [hop];rfl) hd (by decide) (fun d=>by unfold execOp;simp only [hop,e14];rfl) (fun a (hA:Lvs 77 [(18,.int .i64 0),(17,.pointer (some ⟨kb.bk,0,none⟩)),(14,.tuple #[.pointer (some ⟨kb.bk,0,none⟩),.int .i64 0]),(16,.tuple #[.pointer (some ⟨kb.bk,0,none⟩),.int .i64 0]),(15,.agg #[.int .i64 nF,.int .i64 nS,.int .i64 nD]),(1,scr),(2,.pointer (some ⟨cB,0,none⟩)),(5,.bool true)] a)=>?_)
 clear ho hop hd hg e14
 refine lw_val (v:=.pointer (some ⟨kb.bk,0,none⟩)) hA rfl (wanted_none rfl) (by decide) (by kernel_rfl) rfl (by decide) (fun d=>run_assign rfl (hA.get rfl)) (fun a (hA:Lvs 77 [(6,.pointer (some ⟨kb.bk,0,none⟩)),(18,.int .i64 0),(17,.pointer (some ⟨kb.bk,0,none⟩)),(14,.tuple #[.pointer (some ⟨kb.bk,0,none⟩),.int .i64 0]),(16,.tuple #[.pointer (some ⟨kb.bk,0,none⟩),.int .i64 0]),(15,.agg #[.int .i64 nF,.int .i64 nS,.int .i64 nD]),(1,scr),(2,.pointer (some ⟨cB,0,none⟩)),(5,.bool true)] a)=>?_)
 refine lw_val (v:=.int .i64 0) hA rfl (wanted_none rfl) (by decide) (by kernel_rfl) rfl (by decide) (fun d=>run_assign rfl (hA.get rfl)) (fun a (hA:Lvs 77 [(7,.int .i64 0),(6,.pointer (some ⟨kb.bk,0,none⟩)),(18,.int .i64 0),(17,.pointer (some ⟨kb.bk,0,none⟩)),(14,.tuple #[.pointer (some ⟨kb.bk,0,none⟩),.int .i64 0]),(16,.tuple #[.pointer (some ⟨kb.bk,0,none⟩),.int .i64 0]),(15,.agg #[.int .i64 nF,.int .i64 nS,.int .i64 nD]),(1,scr),(2,.pointer (some ⟨cB,0,none⟩)),(5,.bool true)] a)=>?_)
 refine Br.liv_region_end ?_
 replace hA:Lvs 77 [(1,scr),(2,.pointer (some ⟨cB,0,none⟩)),(5,.bool true),(6,.pointer (some ⟨kb.bk,0,none⟩)),(7,.int .i64 0)] a:=hA.sub (fun p hp=>by
  simp only [List.mem_cons,List.not_mem_nil,or_false] at hp
  rcases hp with rfl|rfl|rfl|rfl|rfl<;>rfl)
 refine Br.liv_seq ?_
 refine Br.liv_seq ?_
 refine lb_region (n:=4) (m:=0) (il:=[0,1,2,3,4,5,6,7,8,9]) (by kernel_rfl) ?_
 refine lw_val (v:=.bool true) hA rfl (wanted_none rfl) (by decide) (by kernel_rfl) rfl (by decide) (fun d=>run_move rfl (hA.get rfl)) (fun a (hA:Lvs 77 [(19,.bool true),(1,scr),(2,.pointer (some ⟨cB,0,none⟩)),(5,.bool true),(6,.pointer (some ⟨kb.bk,0,none⟩)),(7,.int .i64 0)] a)=>?_)
 obtain ⟨o,ho,hop,hd,hg⟩:∃ o,(bkOps 4)[1]?=some o∧o.op=.unOp .not 4 (.tmp 19)∧o.dst=some 20∧o.guard=none:=⟨_,rfl,rfl,rfl,rfl⟩
 have e19:=hA.get (t:=19) rfl
 refine lw_val (v:=.bool false) hA ho (wanted_none hg) (by decide) (by rw [hop];rfl) hd (by decide) (fun d=>by unfold execOp;simp only [hop,e19];go_simp) (fun a (hA:Lvs 77 [(20,.bool false),(19,.bool true),(1,scr),(2,.pointer (some ⟨cB,0,none⟩)),(5,.bool true),(6,.pointer (some ⟨kb.bk,0,none⟩)),(7,.int .i64 0)] a)=>?_)
 clear ho hop hd hg e19
 refine lw_val (v:=.bool false) hA rfl (wanted_none rfl) (by decide) (by kernel_rfl) rfl (by decide) (fun d=>run_move rfl (hA.get rfl)) (fun a (hA:Lvs 77 [(21,.bool false),(20,.bool false),(19,.bool true),(1,scr),(2,.pointer (some ⟨cB,0,none⟩)),(5,.bool true),(6,.pointer (some ⟨kb.bk,0,none⟩)),(7,.int .i64 0)] a)=>?_)
 refine lw_val (v:=.pointer (some ⟨kb.bk,0,none⟩)) hA rfl ((hA.wanted (x:=false) rfl rfl rfl rfl).trans rfl) (by decide) (by kernel_rfl) rfl (by decide) (fun d=>run_move rfl (hA.get rfl)) (fun a (hA:Lvs 77 [(22,.pointer (some ⟨kb.bk,0,none⟩)),(21,.bool false),(20,.bool false),(19,.bool true),(1,scr),(2,.pointer (some ⟨cB,0,none⟩)),(5,.bool true),(6,.pointer (some ⟨kb.bk,0,none⟩)),(7,.int .i64 0)] a)=>?_)
 obtain ⟨o,ho,hop,hd,hg⟩:∃ o,(bkOps 4)[4]?=some o∧o.op=.binOp .eql 25 (.tmp 22) (.const (.pointer none)) 25∧o.dst=some 23∧o.guard=some (2,false):=⟨_,rfl,rfl,rfl,rfl⟩
 have e22:=hA.get (t:=22) rfl
 refine lw_val (v:=.bool false) hA ho ((hA.wanted (x:=false) hg rfl rfl rfl).trans rfl) (by decide) (by rw [hop];rfl) hd (by decide) (fun d=>by unfold execOp;simp only [hop,e22];go_simp) (fun a (hA:Lvs 77 [(23,.bool false),(22,.pointer (some ⟨kb.bk,0,none⟩)),(21,.bool false),(20,.bool false),(19,.bool true),(1,scr),(2,.pointer (some ⟨cB,0,none⟩)),(5,.bool true),(6,.pointer (some ⟨kb.bk,0,none⟩)),(7,.int .i64 0)] a)=>?_)
 clear ho hop hd hg e22
 obtain ⟨o,ho,hop,hd,hg⟩:∃ o,(bkOps 4)[5]?=some o∧o.op=.pick (.tmp 21) (.const (.bool true)) (.tmp 23)∧o.dst=some 24∧o.guard=none:=⟨_,rfl,rfl,rfl,rfl⟩
 have e21:=hA.get (t:=21) rfl
 have e23:=hA.get (t:=23) rfl
 refine lw_val (v:=.bool false) hA ho (wanted_none hg) (by decide) (by rw [hop];rfl) hd (by decide) (fun d=>by unfold execOp;simp only [hop,e21,e23];go_simp) (fun a (hA:Lvs 77 [(24,.bool false),(23,.bool false),(22,.pointer (some ⟨kb.bk,0,none⟩)),(21,.bool false),(20,.bool false),(19,.bool true),(1,scr),(2,.pointer (some ⟨cB,0,none⟩)),(5,.bool true),(6,.pointer (some ⟨kb.bk,0,none⟩)),(7,.int .i64 0)] a)=>?_)
 clear ho hop hd hg e21 e23
 refine lw_val (v:=.bool false) hA rfl (wanted_none rfl) (by decide) (by kernel_rfl) rfl (by decide) (fun d=>run_move rfl (hA.get rfl)) (fun a (hA:Lvs 77 [(25,.bool false),(24,.bool false),(23,.bool false),(22,.pointer (some ⟨kb.bk,0,none⟩)),(21,.bool false),(20,.bool false),(19,.bool true),(1,scr),(2,.pointer (some ⟨cB,0,none⟩)),(5,.bool true),(6,.pointer (some ⟨kb.bk,0,none⟩)),(7,.int .i64 0)] a)=>?_)
 refine lw_val (v:=.int .i64 0) hA rfl ((hA.wanted (x:=false) rfl rfl rfl rfl).trans rfl) (by decide) (by kernel_rfl) rfl (by decide) (fun d=>run_move rfl (hA.get rfl)) (fun a (hA:Lvs 77 [(26,.int .i64 0),(25,.bool false),(24,.bool false),(23,.bool false),(22,.pointer (some ⟨kb.bk,0,none⟩)),(21,.bool false),(20,.bool false),(19,.bool true),(1,scr),(2,.pointer (some ⟨cB,0,none⟩)),(5,.bool true),(6,.pointer (some ⟨kb.bk,0,none⟩)),(7,.int .i64 0)] a)=>?_)
 obtain ⟨o,ho,hop,hd,hg⟩:∃ o,(bkOps 4)[8]?=some o∧o.op=.binOp .neq 26 (.tmp 26) (.const (.int .i64 0)) 26∧o.dst=some 27∧o.guard=some (6,false):=⟨_,rfl,rfl,rfl,rfl⟩
 have e26:=hA.get (t:=26) rfl
 refine lw_val (v:=.bool false) hA ho ((hA.wanted (x:=false) hg rfl rfl rfl).trans rfl) (by decide) (by rw [hop];rfl) hd (by decide) (fun d=>by unfold execOp;simp only [hop,e26];go_simp) (fun a (hA:Lvs 77 [(27,.bool false),(26,.int .i64 0),(25,.bool false),(24,.bool false),(23,.bool false),(22,.pointer (some ⟨kb.bk,0,none⟩)),(21,.bool false),(20,.bool false),(19,.bool true),(1,scr),(2,.pointer (some ⟨cB,0,none⟩)),(5,.bool true),(6,.pointer (some ⟨kb.bk,0,none⟩)),(7,.int .i64 0)] a)=>?_)
 clear ho hop hd hg e26
 obtain ⟨o,ho,hop,hd,hg⟩:∃ o,(bkOps 4)[9]?=some o∧o.op=.pick (.tmp 25) (.const (.bool true)) (.tmp 27)∧o.dst=some 28∧o.guard=none:=⟨_,rfl,rfl,rfl,rfl⟩
 have e25:=hA.get (t:=25) rfl
 have e27:=hA.get (t:=27) rfl
 refine lw_val (v:=.bool false) hA ho (wanted_none hg) (by decide) (by rw [hop];rfl) hd (by decide) (fun d=>by unfold execOp;simp only [hop,e25,e27];go_simp) (fun a (hA:Lvs 77 [(28,.bool false),(27,.bool false),(26,.int .i64 0),(25,.bool false),(24,.bool false),(23,.bool false),(22,.pointer (some ⟨kb.bk,0,none⟩)),(21,.bool false),(20,.bool false),(19,.bool true),(1,scr),(2,.pointer (some ⟨cB,0,none⟩)),(5,.bool true),(6,.pointer (some ⟨kb.bk,0,none⟩)),(7,.int .i64 0)] a)=>?_)
 clear ho hop hd hg e25 e27
 refine Br.liv_region_end ?_
 replace hA:Lvs 77 [(1,scr),(2,.pointer (some ⟨cB,0,none⟩)),(5,.bool true),(6,.pointer (some ⟨kb.bk,0,none⟩)),(28,.bool false)] a:=hA.sub (fun p hp=>by
  simp only [List.mem_cons,List.not_mem_nil,or_false] at hp
  rcases hp with rfl|rfl|rfl|rfl|rfl<;>rfl)
 refine Br.liv_cond (t:=false) (hA.get rfl) ?_
 refine Br.liv_skip ?_
 refine Br.liv_seq ?_
 refine lb_region (n:=6) (m:=0) (il:=[0,1,2]) (by kernel_rfl) ?_
 refine lw_val (v:=.pointer (some ⟨kb.bk,0,none⟩)) hA rfl (wanted_none rfl) (by decide) (by kernel_rfl) rfl (by decide) (fun d=>run_move rfl (hA.get rfl)) (fun a (hA:Lvs 77 [(29,.pointer (some ⟨kb.bk,0,none⟩)),(1,scr),(2,.pointer (some ⟨cB,0,none⟩)),(5,.bool true),(6,.pointer (some ⟨kb.bk,0,none⟩)),(28,.bool false)] a)=>?_)
 have e29:=hA.get (t:=29) rfl
 refine lw_call (vs:=#[.pointer (some ⟨kb.bk,0,none⟩)]) hA rfl rfl (by decide) rfl rfl (by decide) Tryd.func16 rfl rfl (by simp only [List.map_toArray,List.map_cons,List.map_nil,e29]) (fun fr cs d=>must_lnew (hco 0) fr cs d) (fun u w' hR a hA=>?_)
 obtain ⟨hG2,b,rfl,gu,hlm⟩:=hR
 replace hA:Lvs 77 [(30,.pointer (some ⟨b.bl,0,none⟩)),(29,.pointer (some ⟨kb.bk,0,none⟩)),(1,scr),(2,.pointer (some ⟨cB,0,none⟩)),(5,.bool true),(6,.pointer (some ⟨kb.bk,0,none⟩)),(28,.bool false)] a:=hA
 refine lw_val (v:=.pointer (some ⟨b.bl,0,none⟩)) hA rfl (wanted_none rfl) (by decide) (by kernel_rfl) rfl (by decide) (fun d=>run_assign rfl (hA.get rfl)) (fun a (hA:Lvs 77 [(8,.pointer (some ⟨b.bl,0,none⟩)),(30,.pointer (some ⟨b.bl,0,none⟩)),(29,.pointer (some ⟨kb.bk,0,none⟩)),(1,scr),(2,.pointer (some ⟨cB,0,none⟩)),(5,.bool true),(6,.pointer (some ⟨kb.bk,0,none⟩)),(28,.bool false)] a)=>?_)
 refine Br.liv_region_end ?_
 replace hA:Lvs 77 [(1,scr),(2,.pointer (some ⟨cB,0,none⟩)),(5,.bool true),(6,.pointer (some ⟨kb.bk,0,none⟩)),(8,.pointer (some ⟨b.bl,0,none⟩))] a:=hA.sub (fun p hp=>by
  simp only [List.mem_cons,List.not_mem_nil,or_false] at hp
  rcases hp with rfl|rfl|rfl|rfl|rfl<;>rfl)
 refine Br.liv_seq ?_
 refine Br.liv_seq ?_
 refine lb_region (n:=7) (m:=0) (il:=[0,1]) (by kernel_rfl) ?_
 refine lw_val (v:=.pointer (some ⟨b.bl,0,none⟩)) hA rfl (wanted_none rfl) (by decide) (by kernel_rfl) rfl (by decide) (fun d=>run_move rfl (hA.get rfl)) (fun a (hA:Lvs 77 [(31,.pointer (some ⟨b.bl,0,none⟩)),(1,scr),(2,.pointer (some ⟨cB,0,none⟩)),(5,.bool true),(6,.pointer (some ⟨kb.bk,0,none⟩)),(8,.pointer (some ⟨b.bl,0,none⟩))] a)=>?_)
 obtain ⟨o,ho,hop,hd,hg⟩:∃ o,(bkOps 7)[1]?=some o∧o.op=.binOp .eql 58 (.tmp 31) (.const (.pointer none)) 58∧o.dst=some 32∧o.guard=none:=⟨_,rfl,rfl,rfl,rfl⟩
 have e31:=hA.get (t:=31) rfl
 refine lw_val (v:=.bool false) hA ho (wanted_none hg) (by decide) (by rw [hop];rfl) hd (by decide) (fun d=>by unfold execOp;simp only [hop,e31];go_simp) (fun a (hA:Lvs 77 [(32,.bool false),(31,.pointer (some ⟨b.bl,0,none⟩)),(1,scr),(2,.pointer (some ⟨cB,0,none⟩)),(5,.bool true),(6,.pointer (some ⟨kb.bk,0,none⟩)),(8,.pointer (some ⟨b.bl,0,none⟩))] a)=>?_)
 clear ho hop hd hg e31
 refine Br.liv_region_end ?_
 replace hA:Lvs 77 [(1,scr),(2,.pointer (some ⟨cB,0,none⟩)),(5,.bool true),(6,.pointer (some ⟨kb.bk,0,none⟩)),(8,.pointer (some ⟨b.bl,0,none⟩)),(32,.bool false)] a:=hA.sub (fun p hp=>by
  simp only [List.mem_cons,List.not_mem_nil,or_false] at hp
  rcases hp with rfl|rfl|rfl|rfl|rfl|rfl<;>rfl)
 refine Br.liv_cond (t:=false) (hA.get rfl) ?_
 refine Br.liv_skip ?_
 refine Br.liv_seq ?_
 refine Br.liv_seq ?_
 refine lb_region (n:=9) (m:=0) (il:=[0]) (by kernel_rfl) ?_
 refine lw_val (v:=.int .i64 0) hA rfl (wanted_none rfl) (by decide) (by kernel_rfl) rfl (by decide) (fun d=>run_assign rfl rfl) (fun a (hA:Lvs 77 [(9,.int .i64 0),(1,scr),(2,.pointer (some ⟨cB,0,none⟩)),(5,.bool true),(6,.pointer (some ⟨kb.bk,0,none⟩)),(8,.pointer (some ⟨b.bl,0,none⟩)),(32,.bool false)] a)=>?_)
 refine Br.liv_region_end ?_
 replace hA:Lvs 77 [(1,scr),(2,.pointer (some ⟨cB,0,none⟩)),(5,.bool true),(6,.pointer (some ⟨kb.bk,0,none⟩)),(8,.pointer (some ⟨b.bl,0,none⟩)),(9,.int .i64 0)] a:=hA.sub (fun p hp=>by
  simp only [List.mem_cons,List.not_mem_nil,or_false] at hp
  rcases hp with rfl|rfl|rfl|rfl|rfl|rfl<;>rfl)
 exact hn a _ kb b (hG.trans hG2) g1 g2 g3 g4 (fun r=>(hco r).grown hG2) hlm ⟨Nat.le_trans hG.size gu.1,Nat.le_trans hG.size gu.2⟩ hA
end Go.Proofs.YtcgabodkegcpgaaDoor
