/- Books: a turn of its loop, up to its three ways. No statement of the program is proved here. -/
import Derived.Test.YtcgabodkegcpgaaDoorWrk
import Derived.Test.YtcgabodkegcpgaaDoorBwa
namespace Go.Proofs.YtcgabodkegcpgaaDoor
open Go.Conc Go.RowKit
open Br (X OpD KO SO SP sfO Lk Fit Must DL Liv Clear)
set_option linter.unusedVariables false
set_option linter.unusedSimpArgs false
set_option maxHeartbeats 20000000
set_option maxRecDepth 100000 in
theorem bk_head {l:List OpD}{Stop:Goroutine→World→Prop}{w:World}(hft:Fit (sfO l) w)(hko:KO l w){g q0 i len cap cB:Nat}{vk vl:Value}{ka s cl a0 a1 a2 o0 o1 o2:Int}{bb:Bool}(hlt:i<len)(LA:w.rangeAt g (q0+i*10) (actCells ka s cl a0 a1 a2 o0 o1 o2 bb))
  {a:Act}(hA:Lvs 77 [(1,.slice (some ⟨g,q0,none⟩) len cap),(2,.pointer (some ⟨cB,0,none⟩)),(5,.bool true),(6,vk),(8,vl),(9,.int .i64 i)] a)(k:List Item)(cs:List Frame)
  (hB:ka=2→∀ a' w',Grown w w'→w'.heap[w.heap.size]?=some (.cells (actCells ka s cl a0 a1 a2 o0 o1 o2 bb).toArray 40 (0,0))→Lvs 77 [(1,.slice (some ⟨g,q0,none⟩) len cap),(2,.pointer (some ⟨cB,0,none⟩)),(5,.bool true),(6,vk),(8,vl),(9,.int .i64 i),(10,.pointer (some ⟨w.heap.size,0,none⟩))] a'→Liv Tryd.prog true true (sfO l) Stop (G ((base 5).at a' (.code (rb 16)::.inBlock 2::.code (.region 19 (bkOps 19) true)::.inBlock 1::.code (rb 11)::k)) cs) w')
  (hP:ka≠2→ka=3→∀ a' w',Grown w w'→w'.heap[w.heap.size]?=some (.cells (actCells ka s cl a0 a1 a2 o0 o1 o2 bb).toArray 40 (0,0))→Lvs 77 [(1,.slice (some ⟨g,q0,none⟩) len cap),(2,.pointer (some ⟨cB,0,none⟩)),(5,.bool true),(6,vk),(8,vl),(9,.int .i64 i),(10,.pointer (some ⟨w.heap.size,0,none⟩))] a'→Liv Tryd.prog true true (sfO l) Stop (G ((base 5).at a' (.code (rb 18)::.inBlock 2::.code (.region 19 (bkOps 19) true)::.inBlock 1::.code (rb 11)::k)) cs) w')
  (hC:ka≠2→ka≠3→∀ a' w',Grown w w'→w'.heap[w.heap.size]?=some (.cells (actCells ka s cl a0 a1 a2 o0 o1 o2 bb).toArray 40 (0,0))→Lvs 77 [(1,.slice (some ⟨g,q0,none⟩) len cap),(2,.pointer (some ⟨cB,0,none⟩)),(5,.bool true),(6,vk),(8,vl),(9,.int .i64 i),(10,.pointer (some ⟨w.heap.size,0,none⟩))] a'→Liv Tryd.prog true true (sfO l) Stop (G ((base 5).at a' (.code (rb 14)::.inBlock 2::.code (.region 19 (bkOps 19) true)::.inBlock 1::.code (rb 11)::k)) cs) w') :
  Liv Tryd.prog true true (sfO l) Stop (G ((base 5).at a (.code bkLoop::k)) cs) w:=by
 have i0:(0:Int)≤(i:Int):=by omega
 have i1:(i:Int)<(len:Int):=by omega
 unfold bkLoop bkAct
 refine Br.liv_seq ?_
 refine Br.liv_seq ?_
 refine lb_region (n:=10) (m:=0) (il:=[0,1,2,3,4,5,6]) (by kernel_rfl) ?_
 refine lw_val (v:=.int .i64 i) hA rfl (wanted_none rfl) (by decide) (by kernel_rfl) rfl (by decide) (fun d=>run_move rfl (hA.get rfl)) (fun a (hA:Lvs 77 [(33,.int .i64 i),(1,.slice (some ⟨g,q0,none⟩) len cap),(2,.pointer (some ⟨cB,0,none⟩)),(5,.bool true),(6,vk),(8,vl),(9,.int .i64 i)] a)=>?_)
 refine lw_val (v:=.slice (some ⟨g,q0,none⟩) len cap) hA rfl (wanted_none rfl) (by decide) (by kernel_rfl) rfl (by decide) (fun d=>run_move rfl (hA.get rfl)) (fun a (hA:Lvs 77 [(34,.slice (some ⟨g,q0,none⟩) len cap),(33,.int .i64 i),(1,.slice (some ⟨g,q0,none⟩) len cap),(2,.pointer (some ⟨cB,0,none⟩)),(5,.bool true),(6,vk),(8,vl),(9,.int .i64 i)] a)=>?_)
 have e34:=hA.get (t:=34) rfl
 refine lw_val (v:=.int .i64 len) hA rfl (wanted_none rfl) (by decide) (by kernel_rfl) rfl (by decide) (fun d=>run_len rfl Tryd.underlying35 e34) (fun a (hA:Lvs 77 [(35,.int .i64 len),(34,.slice (some ⟨g,q0,none⟩) len cap),(33,.int .i64 i),(1,.slice (some ⟨g,q0,none⟩) len cap),(2,.pointer (some ⟨cB,0,none⟩)),(5,.bool true),(6,vk),(8,vl),(9,.int .i64 i)] a)=>?_)
 clear e34
 obtain ⟨o,ho,hop,hd,hg⟩:∃ o,(bkOps 10)[3]?=some o∧o.op=.binOp .lss 3 (.tmp 33) (.tmp 35) 3∧o.dst=some 36∧o.guard=none:=⟨_,rfl,rfl,rfl,rfl⟩
 have e33:=hA.get (t:=33) rfl
 have e35:=hA.get (t:=35) rfl
 refine lw_val (v:=.bool true) hA ho (wanted_none hg) (by decide) (by rw [hop];rfl) hd (by decide) (fun d=>by unfold execOp;simp only [hop,e33,e35];go_simp) (fun a (hA:Lvs 77 [(36,.bool true),(35,.int .i64 len),(34,.slice (some ⟨g,q0,none⟩) len cap),(33,.int .i64 i),(1,.slice (some ⟨g,q0,none⟩) len cap),(2,.pointer (some ⟨cB,0,none⟩)),(5,.bool true),(6,vk),(8,vl),(9,.int .i64 i)] a)=>?_)
 clear ho hop hd hg e33 e35
 refine lw_val (v:=.bool true) hA rfl (wanted_none rfl) (by decide) (by kernel_rfl) rfl (by decide) (fun d=>run_move rfl (hA.get rfl)) (fun a (hA:Lvs 77 [(37,.bool true),(36,.bool true),(35,.int .i64 len),(34,.slice (some ⟨g,q0,none⟩) len cap),(33,.int .i64 i),(1,.slice (some ⟨g,q0,none⟩) len cap),(2,.pointer (some ⟨cB,0,none⟩)),(5,.bool true),(6,vk),(8,vl),(9,.int .i64 i)] a)=>?_)
 refine lw_val (v:=.bool true) hA rfl ((hA.wanted (x:=true) rfl rfl rfl rfl).trans rfl) (by decide) (by kernel_rfl) rfl (by decide) (fun d=>run_move rfl (hA.get rfl)) (fun a (hA:Lvs 77 [(38,.bool true),(37,.bool true),(36,.bool true),(35,.int .i64 len),(34,.slice (some ⟨g,q0,none⟩) len cap),(33,.int .i64 i),(1,.slice (some ⟨g,q0,none⟩) len cap),(2,.pointer (some ⟨cB,0,none⟩)),(5,.bool true),(6,vk),(8,vl),(9,.int .i64 i)] a)=>?_)
 obtain ⟨o,ho,hop,hd,hg⟩:∃ o,(bkOps 10)[6]?=some o∧o.op=.pick (.tmp 37) (.tmp 38) (.const (.bool false))∧o.dst=some 39∧o.guard=none:=⟨_,rfl,rfl,rfl,rfl⟩
 have e37:=hA.get (t:=37) rfl
 have e38:=hA.get (t:=38) rfl
 refine lw_val (v:=.bool true) hA ho (wanted_none hg) (by decide) (by rw [hop];rfl) hd (by decide) (fun d=>by unfold execOp;simp only [hop,e37,e38];go_simp) (fun a (hA:Lvs 77 [(39,.bool true),(38,.bool true),(37,.bool true),(36,.bool true),(35,.int .i64 len),(34,.slice (some ⟨g,q0,none⟩) len cap),(33,.int .i64 i),(1,.slice (some ⟨g,q0,none⟩) len cap),(2,.pointer (some ⟨cB,0,none⟩)),(5,.bool true),(6,vk),(8,vl),(9,.int .i64 i)] a)=>?_)
 clear ho hop hd hg e37 e38
 refine Br.liv_region_end ?_
 replace hA:Lvs 77 [(1,.slice (some ⟨g,q0,none⟩) len cap),(2,.pointer (some ⟨cB,0,none⟩)),(5,.bool true),(6,vk),(8,vl),(9,.int .i64 i),(39,.bool true)] a:=hA.sub (fun p hp=>by
  simp only [List.mem_cons,List.not_mem_nil,or_false] at hp
  rcases hp with rfl|rfl|rfl|rfl|rfl|rfl|rfl<;>rfl)
 refine Br.liv_cond (t:=true) (hA.get rfl) ?_
 refine Br.liv_skip ?_
 refine Br.liv_seq ?_
 refine Br.liv_block ?_
 refine Br.liv_seq ?_
 refine lb_region (n:=12) (m:=0) (il:=[0,1,2,3,4,5]) (by kernel_rfl) ?_
 refine lw_val (v:=.slice (some ⟨g,q0,none⟩) len cap) hA rfl (wanted_none rfl) (by decide) (by kernel_rfl) rfl (by decide) (fun d=>run_move rfl (hA.get rfl)) (fun a (hA:Lvs 77 [(42,.slice (some ⟨g,q0,none⟩) len cap),(1,.slice (some ⟨g,q0,none⟩) len cap),(2,.pointer (some ⟨cB,0,none⟩)),(5,.bool true),(6,vk),(8,vl),(9,.int .i64 i),(39,.bool true)] a)=>?_)
 refine lw_val (v:=.int .i64 i) hA rfl (wanted_none rfl) (by decide) (by kernel_rfl) rfl (by decide) (fun d=>run_move rfl (hA.get rfl)) (fun a (hA:Lvs 77 [(43,.int .i64 i),(42,.slice (some ⟨g,q0,none⟩) len cap),(1,.slice (some ⟨g,q0,none⟩) len cap),(2,.pointer (some ⟨cB,0,none⟩)),(5,.bool true),(6,vk),(8,vl),(9,.int .i64 i),(39,.bool true)] a)=>?_)
 obtain ⟨o,ho,hop,hd,hg⟩:∃ o,(bkOps 12)[2]?=some o∧o.op=.indexAddr 35 (.tmp 42) (.tmp 43)∧o.dst=some 44∧o.guard=none:=⟨_,rfl,rfl,rfl,rfl⟩
 have e42:=hA.get (t:=42) rfl
 have e43:=hA.get (t:=43) rfl
 refine lw_val (v:=.pointer (some ⟨g,q0+i*10,none⟩)) hA ho (wanted_none hg) (by decide) (by rw [hop];rfl) hd (by decide) (fun d=>by unfold execOp;simp only [hop,e42,e43];go_simp) (fun a (hA:Lvs 77 [(44,.pointer (some ⟨g,q0+i*10,none⟩)),(43,.int .i64 i),(42,.slice (some ⟨g,q0,none⟩) len cap),(1,.slice (some ⟨g,q0,none⟩) len cap),(2,.pointer (some ⟨cB,0,none⟩)),(5,.bool true),(6,vk),(8,vl),(9,.int .i64 i),(39,.bool true)] a)=>?_)
 clear ho hop hd hg e42 e43
 have hld:∀ d,(Instr.loadAt 40 (.pointer (some ⟨g,q0+i*10,none⟩))).run Tryd.prog (w.at d)=.ok (.agg (actCells ka s cl a0 a1 a2 o0 o1 o2 bb).toArray) (w.at d):=fun d=>run_loadAt_mid (w.at d) g (q0+i*10) 40 _ _ LA Tryd.underlying40 rfl (by kernel_rfl)
 obtain ⟨o,ho,hop,hd,hg⟩:∃ o,(bkOps 12)[3]?=some o∧o.op=.load 40 (.tmp 44)∧o.dst=some 45∧o.guard=none:=⟨_,rfl,rfl,rfl,rfl⟩
 have e44:=hA.get (t:=44) rfl
 refine lw_val (v:=.agg (actCells ka s cl a0 a1 a2 o0 o1 o2 bb).toArray) hA ho (wanted_none hg) (by decide) (by rw [hop];rfl) hd (by decide) (fun d=>by have hl:=hld d;unfold execOp;simp only [hop,e44];simp only [Sem.run_bind,hl,Result.andThen_ok];rfl) (fun a (hA:Lvs 77 [(45,.agg (actCells ka s cl a0 a1 a2 o0 o1 o2 bb).toArray),(44,.pointer (some ⟨g,q0+i*10,none⟩)),(43,.int .i64 i),(42,.slice (some ⟨g,q0,none⟩) len cap),(1,.slice (some ⟨g,q0,none⟩) len cap),(2,.pointer (some ⟨cB,0,none⟩)),(5,.bool true),(6,vk),(8,vl),(9,.int .i64 i),(39,.bool true)] a)=>?_)
 clear ho hop hd hg e44
 clear hld
 obtain ⟨o',ho,hop,hd,hg⟩:∃ o',(bkOps 12)[4]?=some o'∧o'.op=.alloc 40∧o'.dst=some 10∧o'.guard=none:=⟨_,rfl,rfl,rfl,rfl⟩
 refine lw_made (ob:=.cells #[.int .i64 0,.int .i64 0,.int .i64 0,.int .i64 0,.int .i64 0,.int .i64 0,.int .i64 0,.int .i64 0,.int .i64 0,.bool false] 40 (0,0)) (v:=.pointer (some ⟨w.heap.size,0,none⟩)) hA ho hg (by decide) hd (by decide) (fun d=>by unfold execOp;simp only [hop];go_simp;try rfl) (fun d=>by unfold execOp;simp only [hop];simp [go_sem]) trivial (fun a (hA:Lvs 77 [(10,.pointer (some ⟨w.heap.size,0,none⟩)),(45,.agg (actCells ka s cl a0 a1 a2 o0 o1 o2 bb).toArray),(44,.pointer (some ⟨g,q0+i*10,none⟩)),(43,.int .i64 i),(42,.slice (some ⟨g,q0,none⟩) len cap),(1,.slice (some ⟨g,q0,none⟩) len cap),(2,.pointer (some ⟨cB,0,none⟩)),(5,.bool true),(6,vk),(8,vl),(9,.int .i64 i),(39,.bool true)] a)=>?_)
 clear ho hop hd hg
 have hG:=grown_alloc (w:=w) trivial (ob:=.cells #[.int .i64 0,.int .i64 0,.int .i64 0,.int .i64 0,.int .i64 0,.int .i64 0,.int .i64 0,.int .i64 0,.int .i64 0,.bool false] 40 (0,0)) trivial
 have hX:=heap_alloc_new w (.cells #[.int .i64 0,.int .i64 0,.int .i64 0,.int .i64 0,.int .i64 0,.int .i64 0,.int .i64 0,.int .i64 0,.int .i64 0,.bool false] 40 (0,0))
 have hs1:(w.alloc (.cells #[.int .i64 0,.int .i64 0,.int .i64 0,.int .i64 0,.int .i64 0,.int .i64 0,.int .i64 0,.int .i64 0,.int .i64 0,.bool false] 40 (0,0))).heap.size=w.heap.size+1:=by simp
 have hft1:Fit (sfO l) (w.alloc (.cells #[.int .i64 0,.int .i64 0,.int .i64 0,.int .i64 0,.int .i64 0,.int .i64 0,.int .i64 0,.int .i64 0,.int .i64 0,.bool false] 40 (0,0))):=⟨fun j hj=>by
  obtain ⟨c,t,hc⟩:=hft.soft j hj
  exact ⟨c,t,by rw [hG.old j (Array.getElem?_eq_some_iff.1 hc).1];exact hc⟩,trivial⟩
 generalize w.alloc (.cells #[.int .i64 0,.int .i64 0,.int .i64 0,.int .i64 0,.int .i64 0,.int .i64 0,.int .i64 0,.int .i64 0,.int .i64 0,.bool false] 40 (0,0))=w1 at *
 have e10:=hA.get (t:=10) rfl
 have e45:=hA.get (t:=45) rfl
 obtain ⟨o',ho,hop,hd,hg⟩:∃ o',(bkOps 12)[5]?=some o'∧o'.op=.store 40 (.tmp 10) (.tmp 45)∧o'.dst=none∧o'.guard=none:=⟨_,rfl,rfl,rfl,rfl⟩
 refine lw_storeRow hA ho hg (by decide) hop hd hft1 e10 e45 hX (by rfl) (by kernel_rfl) (by kernel_rfl) (Br.sfO_zero fun o ho=>by have:=Br.KO.lt hko ho;omega) (fun w2 hs2 hk2 hX2=>?_)
 clear ho hop hd hg e10 e45
 have hG2:Grown w w2:=⟨by omega,fun j hj=>by rw [hk2 j (by omega)];exact hG.old j hj,trivial⟩
 have cell:∀ j x d,(actCells ka s cl a0 a1 a2 o0 o1 o2 bb)[j]?=some x→(w2.at d).cell? ⟨w.heap.size,j,none⟩=some x:=fun j x d hx=>by
  show w2.cell? _=_
  simp only [World.cell?,hX2]
  simpa using hx
 refine Br.liv_region_end ?_
 replace hA:Lvs 77 [(1,.slice (some ⟨g,q0,none⟩) len cap),(2,.pointer (some ⟨cB,0,none⟩)),(5,.bool true),(6,vk),(8,vl),(9,.int .i64 i),(10,.pointer (some ⟨w.heap.size,0,none⟩))] a:=hA.sub (fun p hp=>by
  simp only [List.mem_cons,List.not_mem_nil,or_false] at hp
  rcases hp with rfl|rfl|rfl|rfl|rfl|rfl|rfl<;>rfl)
 refine Br.liv_seq ?_
 refine Br.liv_seq ?_
 refine lb_region (n:=13) (m:=0) (il:=[0,1]) (by kernel_rfl) ?_
 obtain ⟨o,ho,hop,hd,hg⟩:∃ o,(bkOps 13)[0]?=some o∧o.op=.fieldAddr 40 (.tmp 10) 0∧o.dst=some 46∧o.guard=none:=⟨_,rfl,rfl,rfl,rfl⟩
 have e10:=hA.get (t:=10) rfl
 refine lw_val (v:=.pointer (some ⟨w.heap.size,0,none⟩)) hA ho (wanted_none hg) (by decide) (by rw [hop];rfl) hd (by decide) (fun d=>by unfold execOp;simp only [hop,e10];go_simp) (fun a (hA:Lvs 77 [(46,.pointer (some ⟨w.heap.size,0,none⟩)),(1,.slice (some ⟨g,q0,none⟩) len cap),(2,.pointer (some ⟨cB,0,none⟩)),(5,.bool true),(6,vk),(8,vl),(9,.int .i64 i),(10,.pointer (some ⟨w.heap.size,0,none⟩))] a)=>?_)
 clear ho hop hd hg e10
 obtain ⟨o,ho,hop,hd,hg⟩:∃ o,(bkOps 13)[1]?=some o∧o.op=.load 3 (.tmp 46)∧o.dst=some 47∧o.guard=none:=⟨_,rfl,rfl,rfl,rfl⟩
 have e46:=hA.get (t:=46) rfl
 refine lw_val (v:=.int .i64 ka) hA ho (wanted_none hg) (by decide) (by rw [hop];rfl) hd (by decide) (fun d=>by have z0:=cell 0 _ d rfl;unfold execOp;simp only [hop,e46];go_simp) (fun a (hA:Lvs 77 [(47,.int .i64 ka),(46,.pointer (some ⟨w.heap.size,0,none⟩)),(1,.slice (some ⟨g,q0,none⟩) len cap),(2,.pointer (some ⟨cB,0,none⟩)),(5,.bool true),(6,vk),(8,vl),(9,.int .i64 i),(10,.pointer (some ⟨w.heap.size,0,none⟩))] a)=>?_)
 clear ho hop hd hg e46
 refine Br.liv_region_end ?_
 replace hA:Lvs 77 [(1,.slice (some ⟨g,q0,none⟩) len cap),(2,.pointer (some ⟨cB,0,none⟩)),(5,.bool true),(6,vk),(8,vl),(9,.int .i64 i),(10,.pointer (some ⟨w.heap.size,0,none⟩)),(47,.int .i64 ka)] a:=hA.sub (fun p hp=>by
  simp only [List.mem_cons,List.not_mem_nil,or_false] at hp
  rcases hp with rfl|rfl|rfl|rfl|rfl|rfl|rfl|rfl<;>rfl)
 refine Br.liv_block ?_
 refine Br.liv_seq ?_
 by_cases h2:ka=2
 ·skip
  refine lb_region (n:=15) (m:=0) (il:=[0,1]) (by kernel_rfl) ?_
  obtain ⟨o,ho,hop,hd,hg⟩:∃ o,(bkOps 15)[0]?=some o∧o.op=.binOp .eql 3 (.tmp 47) (.const (.int .i64 2)) 3∧o.dst=some 57∧o.guard=none:=⟨_,rfl,rfl,rfl,rfl⟩
  have e47:=hA.get (t:=47) rfl
  refine lw_val (v:=.bool true) hA ho (wanted_none hg) (by decide) (by rw [hop];rfl) hd (by decide) (fun d=>by unfold execOp;simp only [hop,e47];go_simp) (fun a (hA:Lvs 77 [(57,.bool true),(1,.slice (some ⟨g,q0,none⟩) len cap),(2,.pointer (some ⟨cB,0,none⟩)),(5,.bool true),(6,vk),(8,vl),(9,.int .i64 i),(10,.pointer (some ⟨w.heap.size,0,none⟩)),(47,.int .i64 ka)] a)=>?_)
  clear ho hop hd hg e47
  refine lw_val (v:=.bool true) hA rfl (wanted_none rfl) (by decide) (by kernel_rfl) rfl (by decide) (fun d=>run_assign rfl (hA.get rfl)) (fun a (hA:Lvs 77 [(56,.bool true),(57,.bool true),(1,.slice (some ⟨g,q0,none⟩) len cap),(2,.pointer (some ⟨cB,0,none⟩)),(5,.bool true),(6,vk),(8,vl),(9,.int .i64 i),(10,.pointer (some ⟨w.heap.size,0,none⟩)),(47,.int .i64 ka)] a)=>?_)
  refine Br.liv_region_end ?_
  replace hA:Lvs 77 [(1,.slice (some ⟨g,q0,none⟩) len cap),(2,.pointer (some ⟨cB,0,none⟩)),(5,.bool true),(6,vk),(8,vl),(9,.int .i64 i),(10,.pointer (some ⟨w.heap.size,0,none⟩)),(56,.bool true)] a:=hA.sub (fun p hp=>by
   simp only [List.mem_cons,List.not_mem_nil,or_false] at hp
   rcases hp with rfl|rfl|rfl|rfl|rfl|rfl|rfl|rfl<;>rfl)
  refine Br.liv_cond (t:=true) (hA.get rfl) ?_
  exact hB h2 a w2 hG2 hX2 (hA.sub (fun p hp=>by
   simp only [List.mem_cons,List.not_mem_nil,or_false] at hp
   rcases hp with rfl|rfl|rfl|rfl|rfl|rfl|rfl<;>rfl))
 ·clear hB
  refine lb_region (n:=15) (m:=0) (il:=[0,1]) (by kernel_rfl) ?_
  obtain ⟨o,ho,hop,hd,hg⟩:∃ o,(bkOps 15)[0]?=some o∧o.op=.binOp .eql 3 (.tmp 47) (.const (.int .i64 2)) 3∧o.dst=some 57∧o.guard=none:=⟨_,rfl,rfl,rfl,rfl⟩
  have e47:=hA.get (t:=47) rfl
  refine lw_val (v:=.bool false) hA ho (wanted_none hg) (by decide) (by rw [hop];rfl) hd (by decide) (fun d=>by unfold execOp;simp only [hop,e47];go_simp) (fun a (hA:Lvs 77 [(57,.bool false),(1,.slice (some ⟨g,q0,none⟩) len cap),(2,.pointer (some ⟨cB,0,none⟩)),(5,.bool true),(6,vk),(8,vl),(9,.int .i64 i),(10,.pointer (some ⟨w.heap.size,0,none⟩)),(47,.int .i64 ka)] a)=>?_)
  clear ho hop hd hg e47
  refine lw_val (v:=.bool false) hA rfl (wanted_none rfl) (by decide) (by kernel_rfl) rfl (by decide) (fun d=>run_assign rfl (hA.get rfl)) (fun a (hA:Lvs 77 [(56,.bool false),(57,.bool false),(1,.slice (some ⟨g,q0,none⟩) len cap),(2,.pointer (some ⟨cB,0,none⟩)),(5,.bool true),(6,vk),(8,vl),(9,.int .i64 i),(10,.pointer (some ⟨w.heap.size,0,none⟩)),(47,.int .i64 ka)] a)=>?_)
  refine Br.liv_region_end ?_
  replace hA:Lvs 77 [(1,.slice (some ⟨g,q0,none⟩) len cap),(2,.pointer (some ⟨cB,0,none⟩)),(5,.bool true),(6,vk),(8,vl),(9,.int .i64 i),(10,.pointer (some ⟨w.heap.size,0,none⟩)),(47,.int .i64 ka),(56,.bool false)] a:=hA.sub (fun p hp=>by
   simp only [List.mem_cons,List.not_mem_nil,or_false] at hp
   rcases hp with rfl|rfl|rfl|rfl|rfl|rfl|rfl|rfl|rfl<;>rfl)
  refine Br.liv_cond (t:=false) (hA.get rfl) ?_
  refine Br.liv_seq ?_
  by_cases h3:ka=3
  ·skip
   refine lb_region (n:=17) (m:=0) (il:=[0,1]) (by kernel_rfl) ?_
   obtain ⟨o,ho,hop,hd,hg⟩:∃ o,(bkOps 17)[0]?=some o∧o.op=.binOp .eql 3 (.tmp 47) (.const (.int .i64 3)) 3∧o.dst=some 65∧o.guard=none:=⟨_,rfl,rfl,rfl,rfl⟩
   have e47:=hA.get (t:=47) rfl
   refine lw_val (v:=.bool true) hA ho (wanted_none hg) (by decide) (by rw [hop];rfl) hd (by decide) (fun d=>by unfold execOp;simp only [hop,e47];go_simp) (fun a (hA:Lvs 77 [(65,.bool true),(1,.slice (some ⟨g,q0,none⟩) len cap),(2,.pointer (some ⟨cB,0,none⟩)),(5,.bool true),(6,vk),(8,vl),(9,.int .i64 i),(10,.pointer (some ⟨w.heap.size,0,none⟩)),(47,.int .i64 ka),(56,.bool false)] a)=>?_)
   clear ho hop hd hg e47
   refine lw_val (v:=.bool true) hA rfl (wanted_none rfl) (by decide) (by kernel_rfl) rfl (by decide) (fun d=>run_assign rfl (hA.get rfl)) (fun a (hA:Lvs 77 [(64,.bool true),(65,.bool true),(1,.slice (some ⟨g,q0,none⟩) len cap),(2,.pointer (some ⟨cB,0,none⟩)),(5,.bool true),(6,vk),(8,vl),(9,.int .i64 i),(10,.pointer (some ⟨w.heap.size,0,none⟩)),(47,.int .i64 ka),(56,.bool false)] a)=>?_)
   refine Br.liv_region_end ?_
   replace hA:Lvs 77 [(1,.slice (some ⟨g,q0,none⟩) len cap),(2,.pointer (some ⟨cB,0,none⟩)),(5,.bool true),(6,vk),(8,vl),(9,.int .i64 i),(10,.pointer (some ⟨w.heap.size,0,none⟩)),(64,.bool true)] a:=hA.sub (fun p hp=>by
    simp only [List.mem_cons,List.not_mem_nil,or_false] at hp
    rcases hp with rfl|rfl|rfl|rfl|rfl|rfl|rfl|rfl<;>rfl)
   refine Br.liv_cond (t:=true) (hA.get rfl) ?_
   exact hP h2 h3 a w2 hG2 hX2 (hA.sub (fun p hp=>by
    simp only [List.mem_cons,List.not_mem_nil,or_false] at hp
    rcases hp with rfl|rfl|rfl|rfl|rfl|rfl|rfl<;>rfl))
  ·clear hP
   refine lb_region (n:=17) (m:=0) (il:=[0,1]) (by kernel_rfl) ?_
   obtain ⟨o,ho,hop,hd,hg⟩:∃ o,(bkOps 17)[0]?=some o∧o.op=.binOp .eql 3 (.tmp 47) (.const (.int .i64 3)) 3∧o.dst=some 65∧o.guard=none:=⟨_,rfl,rfl,rfl,rfl⟩
   have e47:=hA.get (t:=47) rfl
   refine lw_val (v:=.bool false) hA ho (wanted_none hg) (by decide) (by rw [hop];rfl) hd (by decide) (fun d=>by unfold execOp;simp only [hop,e47];go_simp) (fun a (hA:Lvs 77 [(65,.bool false),(1,.slice (some ⟨g,q0,none⟩) len cap),(2,.pointer (some ⟨cB,0,none⟩)),(5,.bool true),(6,vk),(8,vl),(9,.int .i64 i),(10,.pointer (some ⟨w.heap.size,0,none⟩)),(47,.int .i64 ka),(56,.bool false)] a)=>?_)
   clear ho hop hd hg e47
   refine lw_val (v:=.bool false) hA rfl (wanted_none rfl) (by decide) (by kernel_rfl) rfl (by decide) (fun d=>run_assign rfl (hA.get rfl)) (fun a (hA:Lvs 77 [(64,.bool false),(65,.bool false),(1,.slice (some ⟨g,q0,none⟩) len cap),(2,.pointer (some ⟨cB,0,none⟩)),(5,.bool true),(6,vk),(8,vl),(9,.int .i64 i),(10,.pointer (some ⟨w.heap.size,0,none⟩)),(47,.int .i64 ka),(56,.bool false)] a)=>?_)
   refine Br.liv_region_end ?_
   replace hA:Lvs 77 [(1,.slice (some ⟨g,q0,none⟩) len cap),(2,.pointer (some ⟨cB,0,none⟩)),(5,.bool true),(6,vk),(8,vl),(9,.int .i64 i),(10,.pointer (some ⟨w.heap.size,0,none⟩)),(64,.bool false)] a:=hA.sub (fun p hp=>by
    simp only [List.mem_cons,List.not_mem_nil,or_false] at hp
    rcases hp with rfl|rfl|rfl|rfl|rfl|rfl|rfl|rfl<;>rfl)
   refine Br.liv_cond (t:=false) (hA.get rfl) ?_
   exact hC h2 h3 a w2 hG2 hX2 (hA.sub (fun p hp=>by
    simp only [List.mem_cons,List.not_mem_nil,or_false] at hp
    rcases hp with rfl|rfl|rfl|rfl|rfl|rfl|rfl<;>rfl))
set_option maxRecDepth 100000 in
theorem bk_16 {l:List OpD}{Stop:Goroutine→World→Prop}{w:World}{bx:Nat}{scr vc vk vl:Value}{ka s cl a0 a1 a2 o0 o1 o2 i:Int}{bb:Bool}(hX:w.heap[bx]?=some (.cells (actCells ka s cl a0 a1 a2 o0 o1 o2 bb).toArray 40 (0,0))){a:Act}(hA:Lvs 77 [(1,scr),(2,vc),(5,.bool true),(6,vk),(8,vl),(9,.int .i64 i),(10,.pointer (some ⟨bx,0,none⟩))] a)(k:List Item)(cs:List Frame)
  (hn:∀ a',Lvs 77 [(1,scr),(2,vc),(5,.bool true),(6,vk),(8,vl),(9,.int .i64 i)] a'→∀ d,Stop (G (Frame.enter Tryd.prog 17 #[vl,.int .i64 s,.agg #[.int .i64 o0,.int .i64 o1,.int .i64 o2]] .normal) ((base 5).at a' (.inRegion (bkOps 16) [5] :: k)::cs)) (w.at d)) :
  Liv Tryd.prog true true (sfO l) Stop (G ((base 5).at a (.code (rb 16)::k)) cs) w:=by
 have cell:∀ j x d,(actCells ka s cl a0 a1 a2 o0 o1 o2 bb)[j]?=some x→(w.at d).cell? ⟨bx,j,none⟩=some x:=fun j x d hx=>by
  show w.cell? _=_
  simp only [World.cell?,hX]
  simpa using hx
 refine lb_region (n:=16) (m:=0) (il:=[0,1,2,3,4,5]) (by kernel_rfl) ?_
 refine lw_val (v:=vl) hA rfl (wanted_none rfl) (by decide) (by kernel_rfl) rfl (by decide) (fun d=>run_move rfl (hA.get rfl)) (fun a (hA:Lvs 77 [(58,vl),(1,scr),(2,vc),(5,.bool true),(6,vk),(8,vl),(9,.int .i64 i),(10,.pointer (some ⟨bx,0,none⟩))] a)=>?_)
 obtain ⟨o,ho,hop,hd,hg⟩:∃ o,(bkOps 16)[1]?=some o∧o.op=.fieldAddr 40 (.tmp 10) 1∧o.dst=some 59∧o.guard=none:=⟨_,rfl,rfl,rfl,rfl⟩
 have e10:=hA.get (t:=10) rfl
 refine lw_val (v:=.pointer (some ⟨bx,1,none⟩)) hA ho (wanted_none hg) (by decide) (by rw [hop];rfl) hd (by decide) (fun d=>by unfold execOp;simp only [hop,e10];go_simp) (fun a (hA:Lvs 77 [(59,.pointer (some ⟨bx,1,none⟩)),(58,vl),(1,scr),(2,vc),(5,.bool true),(6,vk),(8,vl),(9,.int .i64 i),(10,.pointer (some ⟨bx,0,none⟩))] a)=>?_)
 clear ho hop hd hg e10
 obtain ⟨o,ho,hop,hd,hg⟩:∃ o,(bkOps 16)[2]?=some o∧o.op=.load 3 (.tmp 59)∧o.dst=some 60∧o.guard=none:=⟨_,rfl,rfl,rfl,rfl⟩
 have e59:=hA.get (t:=59) rfl
 refine lw_val (v:=.int .i64 s) hA ho (wanted_none hg) (by decide) (by rw [hop];rfl) hd (by decide) (fun d=>by have z0:=cell 1 _ d rfl;unfold execOp;simp only [hop,e59];go_simp) (fun a (hA:Lvs 77 [(60,.int .i64 s),(59,.pointer (some ⟨bx,1,none⟩)),(58,vl),(1,scr),(2,vc),(5,.bool true),(6,vk),(8,vl),(9,.int .i64 i),(10,.pointer (some ⟨bx,0,none⟩))] a)=>?_)
 clear ho hop hd hg e59
 obtain ⟨o,ho,hop,hd,hg⟩:∃ o,(bkOps 16)[3]?=some o∧o.op=.fieldAddr 40 (.tmp 10) 4∧o.dst=some 61∧o.guard=none:=⟨_,rfl,rfl,rfl,rfl⟩
 have e10:=hA.get (t:=10) rfl
 refine lw_val (v:=.pointer (some ⟨bx,6,none⟩)) hA ho (wanted_none hg) (by decide) (by rw [hop];rfl) hd (by decide) (fun d=>by unfold execOp;simp only [hop,e10];go_simp) (fun a (hA:Lvs 77 [(61,.pointer (some ⟨bx,6,none⟩)),(60,.int .i64 s),(59,.pointer (some ⟨bx,1,none⟩)),(58,vl),(1,scr),(2,vc),(5,.bool true),(6,vk),(8,vl),(9,.int .i64 i),(10,.pointer (some ⟨bx,0,none⟩))] a)=>?_)
 clear ho hop hd hg e10
 obtain ⟨o,ho,hop,hd,hg⟩:∃ o,(bkOps 16)[4]?=some o∧o.op=.load 38 (.tmp 61)∧o.dst=some 62∧o.guard=none:=⟨_,rfl,rfl,rfl,rfl⟩
 have e61:=hA.get (t:=61) rfl
 refine lw_val (v:=.agg #[.int .i64 o0,.int .i64 o1,.int .i64 o2]) hA ho (wanted_none hg) (by decide) (by rw [hop];rfl) hd (by decide) (fun d=>by have z0:=cell 6 _ d rfl;have z1:=cell 7 _ d rfl;have z2:=cell 8 _ d rfl;unfold execOp;simp only [hop,e61];go_simp;try rfl) (fun a (hA:Lvs 77 [(62,.agg #[.int .i64 o0,.int .i64 o1,.int .i64 o2]),(61,.pointer (some ⟨bx,6,none⟩)),(60,.int .i64 s),(59,.pointer (some ⟨bx,1,none⟩)),(58,vl),(1,scr),(2,vc),(5,.bool true),(6,vk),(8,vl),(9,.int .i64 i),(10,.pointer (some ⟨bx,0,none⟩))] a)=>?_)
 clear ho hop hd hg e61
 have e58:=hA.get (t:=58) rfl
 have e60:=hA.get (t:=60) rfl
 have e62:=hA.get (t:=62) rfl
 exact lv_enter rfl rfl (by decide) rfl Tryd.func17 rfl rfl (by simp only [List.map_toArray,List.map_cons,List.map_nil,e58,e60,e62]) (hn a (hA.sub (fun p hp=>by
  simp only [List.mem_cons,List.not_mem_nil,or_false] at hp
  rcases hp with rfl|rfl|rfl|rfl|rfl|rfl<;>rfl)))
set_option maxRecDepth 100000 in
theorem bk_18 {l:List OpD}{Stop:Goroutine→World→Prop}{w:World}{bx:Nat}{scr vc vk vl:Value}{ka s cl a0 a1 a2 o0 o1 o2 i:Int}{bb:Bool}(hX:w.heap[bx]?=some (.cells (actCells ka s cl a0 a1 a2 o0 o1 o2 bb).toArray 40 (0,0))){a:Act}(hA:Lvs 77 [(1,scr),(2,vc),(5,.bool true),(6,vk),(8,vl),(9,.int .i64 i),(10,.pointer (some ⟨bx,0,none⟩))] a)(k:List Item)(cs:List Frame)
  (hn:∀ a',Lvs 77 [(1,scr),(2,vc),(5,.bool true),(6,vk),(8,vl),(9,.int .i64 i)] a'→∀ d,Stop (G (Frame.enter Tryd.prog 18 #[vl,.int .i64 s] .normal) ((base 5).at a' (.inRegion (bkOps 18) [3] :: k)::cs)) (w.at d)) :
  Liv Tryd.prog true true (sfO l) Stop (G ((base 5).at a (.code (rb 18)::k)) cs) w:=by
 have cell:∀ j x d,(actCells ka s cl a0 a1 a2 o0 o1 o2 bb)[j]?=some x→(w.at d).cell? ⟨bx,j,none⟩=some x:=fun j x d hx=>by
  show w.cell? _=_
  simp only [World.cell?,hX]
  simpa using hx
 refine lb_region (n:=18) (m:=0) (il:=[0,1,2,3]) (by kernel_rfl) ?_
 refine lw_val (v:=vl) hA rfl (wanted_none rfl) (by decide) (by kernel_rfl) rfl (by decide) (fun d=>run_move rfl (hA.get rfl)) (fun a (hA:Lvs 77 [(66,vl),(1,scr),(2,vc),(5,.bool true),(6,vk),(8,vl),(9,.int .i64 i),(10,.pointer (some ⟨bx,0,none⟩))] a)=>?_)
 obtain ⟨o,ho,hop,hd,hg⟩:∃ o,(bkOps 18)[1]?=some o∧o.op=.fieldAddr 40 (.tmp 10) 1∧o.dst=some 67∧o.guard=none:=⟨_,rfl,rfl,rfl,rfl⟩
 have e10:=hA.get (t:=10) rfl
 refine lw_val (v:=.pointer (some ⟨bx,1,none⟩)) hA ho (wanted_none hg) (by decide) (by rw [hop];rfl) hd (by decide) (fun d=>by unfold execOp;simp only [hop,e10];go_simp) (fun a (hA:Lvs 77 [(67,.pointer (some ⟨bx,1,none⟩)),(66,vl),(1,scr),(2,vc),(5,.bool true),(6,vk),(8,vl),(9,.int .i64 i),(10,.pointer (some ⟨bx,0,none⟩))] a)=>?_)
 clear ho hop hd hg e10
 obtain ⟨o,ho,hop,hd,hg⟩:∃ o,(bkOps 18)[2]?=some o∧o.op=.load 3 (.tmp 67)∧o.dst=some 68∧o.guard=none:=⟨_,rfl,rfl,rfl,rfl⟩
 have e67:=hA.get (t:=67) rfl
 refine lw_val (v:=.int .i64 s) hA ho (wanted_none hg) (by decide) (by rw [hop];rfl) hd (by decide) (fun d=>by have z0:=cell 1 _ d rfl;unfold execOp;simp only [hop,e67];go_simp) (fun a (hA:Lvs 77 [(68,.int .i64 s),(67,.pointer (some ⟨bx,1,none⟩)),(66,vl),(1,scr),(2,vc),(5,.bool true),(6,vk),(8,vl),(9,.int .i64 i),(10,.pointer (some ⟨bx,0,none⟩))] a)=>?_)
 clear ho hop hd hg e67
 have e66:=hA.get (t:=66) rfl
 have e68:=hA.get (t:=68) rfl
 exact lv_enter rfl rfl (by decide) rfl Tryd.func18 rfl rfl (by simp only [List.map_toArray,List.map_cons,List.map_nil,e66,e68]) (hn a (hA.sub (fun p hp=>by
  simp only [List.mem_cons,List.not_mem_nil,or_false] at hp
  rcases hp with rfl|rfl|rfl|rfl|rfl|rfl<;>rfl)))
set_option maxRecDepth 100000 in
theorem bk_14 {l:List OpD}{Stop:Goroutine→World→Prop}{w:World}{bx:Nat}{scr vc vk vl:Value}{ka s cl a0 a1 a2 o0 o1 o2 i:Int}{bb:Bool}(hX:w.heap[bx]?=some (.cells (actCells ka s cl a0 a1 a2 o0 o1 o2 bb).toArray 40 (0,0))){a:Act}(hA:Lvs 77 [(1,scr),(2,vc),(5,.bool true),(6,vk),(8,vl),(9,.int .i64 i),(10,.pointer (some ⟨bx,0,none⟩))] a)(k:List Item)(cs:List Frame)
  (hn:∀ a',Lvs 77 [(1,scr),(2,vc),(5,.bool true),(6,vk),(8,vl),(9,.int .i64 i)] a'→∀ d,Stop (G (Frame.enter Tryd.prog 11 #[vk,.int .i64 s,.int .i64 cl,.agg #[.int .i64 a0,.int .i64 a1,.int .i64 a2]] .normal) ((base 5).at a' (.inRegion (bkOps 14) [7] :: k)::cs)) (w.at d)) :
  Liv Tryd.prog true true (sfO l) Stop (G ((base 5).at a (.code (rb 14)::k)) cs) w:=by
 have cell:∀ j x d,(actCells ka s cl a0 a1 a2 o0 o1 o2 bb)[j]?=some x→(w.at d).cell? ⟨bx,j,none⟩=some x:=fun j x d hx=>by
  show w.cell? _=_
  simp only [World.cell?,hX]
  simpa using hx
 refine lb_region (n:=14) (m:=0) (il:=[0,1,2,3,4,5,6,7]) (by kernel_rfl) ?_
 refine lw_val (v:=vk) hA rfl (wanted_none rfl) (by decide) (by kernel_rfl) rfl (by decide) (fun d=>run_move rfl (hA.get rfl)) (fun a (hA:Lvs 77 [(48,vk),(1,scr),(2,vc),(5,.bool true),(6,vk),(8,vl),(9,.int .i64 i),(10,.pointer (some ⟨bx,0,none⟩))] a)=>?_)
 obtain ⟨o,ho,hop,hd,hg⟩:∃ o,(bkOps 14)[1]?=some o∧o.op=.fieldAddr 40 (.tmp 10) 1∧o.dst=some 49∧o.guard=none:=⟨_,rfl,rfl,rfl,rfl⟩
 have e10:=hA.get (t:=10) rfl
 refine lw_val (v:=.pointer (some ⟨bx,1,none⟩)) hA ho (wanted_none hg) (by decide) (by rw [hop];rfl) hd (by decide) (fun d=>by unfold execOp;simp only [hop,e10];go_simp) (fun a (hA:Lvs 77 [(49,.pointer (some ⟨bx,1,none⟩)),(48,vk),(1,scr),(2,vc),(5,.bool true),(6,vk),(8,vl),(9,.int .i64 i),(10,.pointer (some ⟨bx,0,none⟩))] a)=>?_)
 clear ho hop hd hg e10
 obtain ⟨o,ho,hop,hd,hg⟩:∃ o,(bkOps 14)[2]?=some o∧o.op=.load 3 (.tmp 49)∧o.dst=some 50∧o.guard=none:=⟨_,rfl,rfl,rfl,rfl⟩
 have e49:=hA.get (t:=49) rfl
 refine lw_val (v:=.int .i64 s) hA ho (wanted_none hg) (by decide) (by rw [hop];rfl) hd (by decide) (fun d=>by have z0:=cell 1 _ d rfl;unfold execOp;simp only [hop,e49];go_simp) (fun a (hA:Lvs 77 [(50,.int .i64 s),(49,.pointer (some ⟨bx,1,none⟩)),(48,vk),(1,scr),(2,vc),(5,.bool true),(6,vk),(8,vl),(9,.int .i64 i),(10,.pointer (some ⟨bx,0,none⟩))] a)=>?_)
 clear ho hop hd hg e49
 obtain ⟨o,ho,hop,hd,hg⟩:∃ o,(bkOps 14)[3]?=some o∧o.op=.fieldAddr 40 (.tmp 10) 2∧o.dst=some 51∧o.guard=none:=⟨_,rfl,rfl,rfl,rfl⟩
 have e10:=hA.get (t:=10) rfl
 refine lw_val (v:=.pointer (some ⟨bx,2,none⟩)) hA ho (wanted_none hg) (by decide) (by rw [hop];rfl) hd (by decide) (fun d=>by unfold execOp;simp only [hop,e10];go_simp) (fun a (hA:Lvs 77 [(51,.pointer (some ⟨bx,2,none⟩)),(50,.int .i64 s),(49,.pointer (some ⟨bx,1,none⟩)),(48,vk),(1,scr),(2,vc),(5,.bool true),(6,vk),(8,vl),(9,.int .i64 i),(10,.pointer (some ⟨bx,0,none⟩))] a)=>?_)
 clear ho hop hd hg e10
 obtain ⟨o,ho,hop,hd,hg⟩:∃ o,(bkOps 14)[4]?=some o∧o.op=.load 3 (.tmp 51)∧o.dst=some 52∧o.guard=none:=⟨_,rfl,rfl,rfl,rfl⟩
 have e51:=hA.get (t:=51) rfl
 refine lw_val (v:=.int .i64 cl) hA ho (wanted_none hg) (by decide) (by rw [hop];rfl) hd (by decide) (fun d=>by have z0:=cell 2 _ d rfl;unfold execOp;simp only [hop,e51];go_simp) (fun a (hA:Lvs 77 [(52,.int .i64 cl),(51,.pointer (some ⟨bx,2,none⟩)),(50,.int .i64 s),(49,.pointer (some ⟨bx,1,none⟩)),(48,vk),(1,scr),(2,vc),(5,.bool true),(6,vk),(8,vl),(9,.int .i64 i),(10,.pointer (some ⟨bx,0,none⟩))] a)=>?_)
 clear ho hop hd hg e51
 obtain ⟨o,ho,hop,hd,hg⟩:∃ o,(bkOps 14)[5]?=some o∧o.op=.fieldAddr 40 (.tmp 10) 3∧o.dst=some 53∧o.guard=none:=⟨_,rfl,rfl,rfl,rfl⟩
 have e10:=hA.get (t:=10) rfl
 refine lw_val (v:=.pointer (some ⟨bx,3,none⟩)) hA ho (wanted_none hg) (by decide) (by rw [hop];rfl) hd (by decide) (fun d=>by unfold execOp;simp only [hop,e10];go_simp) (fun a (hA:Lvs 77 [(53,.pointer (some ⟨bx,3,none⟩)),(52,.int .i64 cl),(51,.pointer (some ⟨bx,2,none⟩)),(50,.int .i64 s),(49,.pointer (some ⟨bx,1,none⟩)),(48,vk),(1,scr),(2,vc),(5,.bool true),(6,vk),(8,vl),(9,.int .i64 i),(10,.pointer (some ⟨bx,0,none⟩))] a)=>?_)
 clear ho hop hd hg e10
 obtain ⟨o,ho,hop,hd,hg⟩:∃ o,(bkOps 14)[6]?=some o∧o.op=.load 33 (.tmp 53)∧o.dst=some 54∧o.guard=none:=⟨_,rfl,rfl,rfl,rfl⟩
 have e53:=hA.get (t:=53) rfl
 refine lw_val (v:=.agg #[.int .i64 a0,.int .i64 a1,.int .i64 a2]) hA ho (wanted_none hg) (by decide) (by rw [hop];rfl) hd (by decide) (fun d=>by have z0:=cell 3 _ d rfl;have z1:=cell 4 _ d rfl;have z2:=cell 5 _ d rfl;unfold execOp;simp only [hop,e53];go_simp;try rfl) (fun a (hA:Lvs 77 [(54,.agg #[.int .i64 a0,.int .i64 a1,.int .i64 a2]),(53,.pointer (some ⟨bx,3,none⟩)),(52,.int .i64 cl),(51,.pointer (some ⟨bx,2,none⟩)),(50,.int .i64 s),(49,.pointer (some ⟨bx,1,none⟩)),(48,vk),(1,scr),(2,vc),(5,.bool true),(6,vk),(8,vl),(9,.int .i64 i),(10,.pointer (some ⟨bx,0,none⟩))] a)=>?_)
 clear ho hop hd hg e53
 have e48:=hA.get (t:=48) rfl
 have e50:=hA.get (t:=50) rfl
 have e52:=hA.get (t:=52) rfl
 have e54:=hA.get (t:=54) rfl
 exact lv_enter rfl rfl (by decide) rfl Tryd.func11 rfl rfl (by simp only [List.map_toArray,List.map_cons,List.map_nil,e48,e50,e52,e54]) (hn a (hA.sub (fun p hp=>by
  simp only [List.mem_cons,List.not_mem_nil,or_false] at hp
  rcases hp with rfl|rfl|rfl|rfl|rfl|rfl<;>rfl)))
end Go.Proofs.YtcgabodkegcpgaaDoor
