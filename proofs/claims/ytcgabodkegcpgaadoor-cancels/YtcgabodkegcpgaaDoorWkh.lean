/- Cancels: the three ways of a turn, up to their calls, and the end of a turn. No statement of the program is proved here. -/
import Derived.Test.YtcgabodkegcpgaaDoorCia
namespace Go.Proofs.YtcgabodkegcpgaaDoor
open Go.Conc Go.RowKit
open Br (X OpD KO SO SP sfO Lk Fit Must DL Liv Clear)
set_option linter.unusedVariables false
set_option linter.unusedSimpArgs false
set_option maxHeartbeats 4000000
set_option maxRecDepth 100000 in
theorem cn_16 {l:List OpD}{Stop:Goroutine→World→Prop}{w:World}{bx:Nat}{scr vc vk vl:Value}{ka s cl a0 a1 a2 o0 o1 o2 i:Int}{bb:Bool}(hX:w.heap[bx]?=some (.cells (actCells ka s cl a0 a1 a2 o0 o1 o2 bb).toArray 40 (0,0))){a:Act}(hA:Lvs 211 [(1,scr),(2,vc),(5,.bool true),(6,vk),(8,vl),(9,.int .i64 i),(10,.pointer (some ⟨bx,0,none⟩))] a)(k:List Item)(cs:List Frame)
  (hn:∀ a',Lvs 211 [(1,scr),(2,vc),(5,.bool true),(6,vk),(8,vl),(9,.int .i64 i)] a'→∀ d,Stop (G (Frame.enter Tryd.prog 17 #[vl,.int .i64 s,.agg #[.int .i64 o0,.int .i64 o1,.int .i64 o2]] .normal) ((base 6).at a' (.inRegion (cnOps 16) [5] :: k)::cs)) (w.at d)) :
  Liv Tryd.prog true true (sfO l) Stop (G ((base 6).at a (.code (rg 16)::k)) cs) w:=by
 have cell:∀ j x d,(actCells ka s cl a0 a1 a2 o0 o1 o2 bb)[j]?=some x→(w.at d).cell? ⟨bx,j,none⟩=some x:=fun j x d hx=>by
  show w.cell? _=_
  simp only [World.cell?,hX]
  simpa using hx
 refine lw_region (n:=16) (m:=0) (il:=[0,1,2,3,4,5]) (by kernel_rfl) ?_
 refine lw_val (v:=vl) hA rfl (wanted_none rfl) (by decide) (by kernel_rfl) rfl (by decide) (fun d=>run_move rfl (hA.get rfl)) (fun a (hA:Lvs 211 [(75,vl),(1,scr),(2,vc),(5,.bool true),(6,vk),(8,vl),(9,.int .i64 i),(10,.pointer (some ⟨bx,0,none⟩))] a)=>?_)
 obtain ⟨o,ho,hop,hd,hg⟩:∃ o,(cnOps 16)[1]?=some o∧o.op=.fieldAddr 40 (.tmp 10) 1∧o.dst=some 76∧o.guard=none:=⟨_,rfl,rfl,rfl,rfl⟩
 have e10:=hA.get (t:=10) rfl
 refine lw_val (v:=.pointer (some ⟨bx,1,none⟩)) hA ho (wanted_none hg) (by decide) (by rw [hop];rfl) hd (by decide) (fun d=>by unfold execOp;simp only [hop,e10];go_simp) (fun a (hA:Lvs 211 [(76,.pointer (some ⟨bx,1,none⟩)),(75,vl),(1,scr),(2,vc),(5,.bool true),(6,vk),(8,vl),(9,.int .i64 i),(10,.pointer (some ⟨bx,0,none⟩))] a)=>?_)
 clear ho hop hd hg e10
 obtain ⟨o,ho,hop,hd,hg⟩:∃ o,(cnOps 16)[2]?=some o∧o.op=.load 3 (.tmp 76)∧o.dst=some 77∧o.guard=none:=⟨_,rfl,rfl,rfl,rfl⟩
 have e76:=hA.get (t:=76) rfl
 refine lw_val (v:=.int .i64 s) hA ho (wanted_none hg) (by decide) (by rw [hop];rfl) hd (by decide) (fun d=>by have z0:=cell 1 _ d rfl;unfold execOp;simp only [hop,e76];go_simp) (fun a (hA:Lvs 211 [(77,.int .i64 s),(76,.pointer (some ⟨bx,1,none⟩)),(75,vl),(1,scr),(2,vc),(5,.bool true),(6,vk),(8,vl),(9,.int .i64 i),(10,.pointer (some ⟨bx,0,none⟩))] a)=>?_)
 clear ho hop hd hg e76
 obtain ⟨o,ho,hop,hd,hg⟩:∃ o,(cnOps 16)[3]?=some o∧o.op=.fieldAddr 40 (.tmp 10) 4∧o.dst=some 78∧o.guard=none:=⟨_,rfl,rfl,rfl,rfl⟩
 have e10:=hA.get (t:=10) rfl
 refine lw_val (v:=.pointer (some ⟨bx,6,none⟩)) hA ho (wanted_none hg) (by decide) (by rw [hop];rfl) hd (by decide) (fun d=>by unfold execOp;simp only [hop,e10];go_simp) (fun a (hA:Lvs 211 [(78,.pointer (some ⟨bx,6,none⟩)),(77,.int .i64 s),(76,.pointer (some ⟨bx,1,none⟩)),(75,vl),(1,scr),(2,vc),(5,.bool true),(6,vk),(8,vl),(9,.int .i64 i),(10,.pointer (some ⟨bx,0,none⟩))] a)=>?_)
 clear ho hop hd hg e10
 obtain ⟨o,ho,hop,hd,hg⟩:∃ o,(cnOps 16)[4]?=some o∧o.op=.load 38 (.tmp 78)∧o.dst=some 79∧o.guard=none:=⟨_,rfl,rfl,rfl,rfl⟩
 have e78:=hA.get (t:=78) rfl
 refine lw_val (v:=.agg #[.int .i64 o0,.int .i64 o1,.int .i64 o2]) hA ho (wanted_none hg) (by decide) (by rw [hop];rfl) hd (by decide) (fun d=>by have z0:=cell 6 _ d rfl;have z1:=cell 7 _ d rfl;have z2:=cell 8 _ d rfl;unfold execOp;simp only [hop,e78];go_simp;try rfl) (fun a (hA:Lvs 211 [(79,.agg #[.int .i64 o0,.int .i64 o1,.int .i64 o2]),(78,.pointer (some ⟨bx,6,none⟩)),(77,.int .i64 s),(76,.pointer (some ⟨bx,1,none⟩)),(75,vl),(1,scr),(2,vc),(5,.bool true),(6,vk),(8,vl),(9,.int .i64 i),(10,.pointer (some ⟨bx,0,none⟩))] a)=>?_)
 clear ho hop hd hg e78
 have e75:=hA.get (t:=75) rfl
 have e77:=hA.get (t:=77) rfl
 have e79:=hA.get (t:=79) rfl
 exact lv_enter rfl rfl (by decide) rfl Tryd.func17 rfl rfl (by simp only [List.map_toArray,List.map_cons,List.map_nil,e75,e77,e79]) (hn a (hA.sub (fun p hp=>by
  simp only [List.mem_cons,List.not_mem_nil,or_false] at hp
  rcases hp with rfl|rfl|rfl|rfl|rfl|rfl<;>rfl)))
set_option maxRecDepth 100000 in
theorem cn_18 {l:List OpD}{Stop:Goroutine→World→Prop}{w:World}{bx:Nat}{scr vc vk vl:Value}{ka s cl a0 a1 a2 o0 o1 o2 i:Int}{bb:Bool}(hX:w.heap[bx]?=some (.cells (actCells ka s cl a0 a1 a2 o0 o1 o2 bb).toArray 40 (0,0))){a:Act}(hA:Lvs 211 [(1,scr),(2,vc),(5,.bool true),(6,vk),(8,vl),(9,.int .i64 i),(10,.pointer (some ⟨bx,0,none⟩))] a)(k:List Item)(cs:List Frame)
  (hn:∀ a',Lvs 211 [(1,scr),(2,vc),(5,.bool true),(6,vk),(8,vl),(9,.int .i64 i)] a'→∀ d,Stop (G (Frame.enter Tryd.prog 18 #[vl,.int .i64 s] .normal) ((base 6).at a' (.inRegion (cnOps 18) [3] :: k)::cs)) (w.at d)) :
  Liv Tryd.prog true true (sfO l) Stop (G ((base 6).at a (.code (rg 18)::k)) cs) w:=by
 have cell:∀ j x d,(actCells ka s cl a0 a1 a2 o0 o1 o2 bb)[j]?=some x→(w.at d).cell? ⟨bx,j,none⟩=some x:=fun j x d hx=>by
  show w.cell? _=_
  simp only [World.cell?,hX]
  simpa using hx
 refine lw_region (n:=18) (m:=0) (il:=[0,1,2,3]) (by kernel_rfl) ?_
 refine lw_val (v:=vl) hA rfl (wanted_none rfl) (by decide) (by kernel_rfl) rfl (by decide) (fun d=>run_move rfl (hA.get rfl)) (fun a (hA:Lvs 211 [(83,vl),(1,scr),(2,vc),(5,.bool true),(6,vk),(8,vl),(9,.int .i64 i),(10,.pointer (some ⟨bx,0,none⟩))] a)=>?_)
 obtain ⟨o,ho,hop,hd,hg⟩:∃ o,(cnOps 18)[1]?=some o∧o.op=.fieldAddr 40 (.tmp 10) 1∧o.dst=some 84∧o.guard=none:=⟨_,rfl,rfl,rfl,rfl⟩
 have e10:=hA.get (t:=10) rfl
 refine lw_val (v:=.pointer (some ⟨bx,1,none⟩)) hA ho (wanted_none hg) (by decide) (by rw [hop];rfl) hd (by decide) (fun d=>by unfold execOp;simp only [hop,e10];go_simp) (fun a (hA:Lvs 211 [(84,.pointer (some ⟨bx,1,none⟩)),(83,vl),(1,scr),(2,vc),(5,.bool true),(6,vk),(8,vl),(9,.int .i64 i),(10,.pointer (some ⟨bx,0,none⟩))] a)=>?_)
 clear ho hop hd hg e10
 obtain ⟨o,ho,hop,hd,hg⟩:∃ o,(cnOps 18)[2]?=some o∧o.op=.load 3 (.tmp 84)∧o.dst=some 85∧o.guard=none:=⟨_,rfl,rfl,rfl,rfl⟩
 have e84:=hA.get (t:=84) rfl
 refine lw_val (v:=.int .i64 s) hA ho (wanted_none hg) (by decide) (by rw [hop];rfl) hd (by decide) (fun d=>by have z0:=cell 1 _ d rfl;unfold execOp;simp only [hop,e84];go_simp) (fun a (hA:Lvs 211 [(85,.int .i64 s),(84,.pointer (some ⟨bx,1,none⟩)),(83,vl),(1,scr),(2,vc),(5,.bool true),(6,vk),(8,vl),(9,.int .i64 i),(10,.pointer (some ⟨bx,0,none⟩))] a)=>?_)
 clear ho hop hd hg e84
 have e83:=hA.get (t:=83) rfl
 have e85:=hA.get (t:=85) rfl
 exact lv_enter rfl rfl (by decide) rfl Tryd.func18 rfl rfl (by simp only [List.map_toArray,List.map_cons,List.map_nil,e83,e85]) (hn a (hA.sub (fun p hp=>by
  simp only [List.mem_cons,List.not_mem_nil,or_false] at hp
  rcases hp with rfl|rfl|rfl|rfl|rfl|rfl<;>rfl)))
set_option maxRecDepth 100000 in
theorem cn_14 {l:List OpD}{Stop:Goroutine→World→Prop}{w:World}{bx:Nat}{scr vc vk vl:Value}{ka s cl a0 a1 a2 o0 o1 o2 i:Int}{bb:Bool}(hX:w.heap[bx]?=some (.cells (actCells ka s cl a0 a1 a2 o0 o1 o2 bb).toArray 40 (0,0))){a:Act}(hA:Lvs 211 [(1,scr),(2,vc),(5,.bool true),(6,vk),(8,vl),(9,.int .i64 i),(10,.pointer (some ⟨bx,0,none⟩))] a)(k:List Item)(cs:List Frame)
  (hn:∀ a',Lvs 211 [(1,scr),(2,vc),(5,.bool true),(6,vk),(8,vl),(9,.int .i64 i)] a'→∀ d,Stop (G (Frame.enter Tryd.prog 11 #[vk,.int .i64 s,.int .i64 cl,.agg #[.int .i64 a0,.int .i64 a1,.int .i64 a2]] .normal) ((base 6).at a' (.inRegion (cnOps 14) [7] :: k)::cs)) (w.at d)) :
  Liv Tryd.prog true true (sfO l) Stop (G ((base 6).at a (.code (rg 14)::k)) cs) w:=by
 have cell:∀ j x d,(actCells ka s cl a0 a1 a2 o0 o1 o2 bb)[j]?=some x→(w.at d).cell? ⟨bx,j,none⟩=some x:=fun j x d hx=>by
  show w.cell? _=_
  simp only [World.cell?,hX]
  simpa using hx
 refine lw_region (n:=14) (m:=0) (il:=[0,1,2,3,4,5,6,7]) (by kernel_rfl) ?_
 refine lw_val (v:=vk) hA rfl (wanted_none rfl) (by decide) (by kernel_rfl) rfl (by decide) (fun d=>run_move rfl (hA.get rfl)) (fun a (hA:Lvs 211 [(65,vk),(1,scr),(2,vc),(5,.bool true),(6,vk),(8,vl),(9,.int .i64 i),(10,.pointer (some ⟨bx,0,none⟩))] a)=>?_)
 obtain ⟨o,ho,hop,hd,hg⟩:∃ o,(cnOps 14)[1]?=some o∧o.op=.fieldAddr 40 (.tmp 10) 1∧o.dst=some 66∧o.guard=none:=⟨_,rfl,rfl,rfl,rfl⟩
 have e10:=hA.get (t:=10) rfl
 refine lw_val (v:=.pointer (some ⟨bx,1,none⟩)) hA ho (wanted_none hg) (by decide) (by rw [hop];rfl) hd (by decide) (fun d=>by unfold execOp;simp only [hop,e10];go_simp) (fun a (hA:Lvs 211 [(66,.pointer (some ⟨bx,1,none⟩)),(65,vk),(1,scr),(2,vc),(5,.bool true),(6,vk),(8,vl),(9,.int .i64 i),(10,.pointer (some ⟨bx,0,none⟩))] a)=>?_)
 clear ho hop hd hg e10
 obtain ⟨o,ho,hop,hd,hg⟩:∃ o,(cnOps 14)[2]?=some o∧o.op=.load 3 (.tmp 66)∧o.dst=some 67∧o.guard=none:=⟨_,rfl,rfl,rfl,rfl⟩
 have e66:=hA.get (t:=66) rfl
 refine lw_val (v:=.int .i64 s) hA ho (wanted_none hg) (by decide) (by rw [hop];rfl) hd (by decide) (fun d=>by have z0:=cell 1 _ d rfl;unfold execOp;simp only [hop,e66];go_simp) (fun a (hA:Lvs 211 [(67,.int .i64 s),(66,.pointer (some ⟨bx,1,none⟩)),(65,vk),(1,scr),(2,vc),(5,.bool true),(6,vk),(8,vl),(9,.int .i64 i),(10,.pointer (some ⟨bx,0,none⟩))] a)=>?_)
 clear ho hop hd hg e66
 obtain ⟨o,ho,hop,hd,hg⟩:∃ o,(cnOps 14)[3]?=some o∧o.op=.fieldAddr 40 (.tmp 10) 2∧o.dst=some 68∧o.guard=none:=⟨_,rfl,rfl,rfl,rfl⟩
 have e10:=hA.get (t:=10) rfl
 refine lw_val (v:=.pointer (some ⟨bx,2,none⟩)) hA ho (wanted_none hg) (by decide) (by rw [hop];rfl) hd (by decide) (fun d=>by unfold execOp;simp only [hop,e10];go_simp) (fun a (hA:Lvs 211 [(68,.pointer (some ⟨bx,2,none⟩)),(67,.int .i64 s),(66,.pointer (some ⟨bx,1,none⟩)),(65,vk),(1,scr),(2,vc),(5,.bool true),(6,vk),(8,vl),(9,.int .i64 i),(10,.pointer (some ⟨bx,0,none⟩))] a)=>?_)
 clear ho hop hd hg e10
 obtain ⟨o,ho,hop,hd,hg⟩:∃ o,(cnOps 14)[4]?=some o∧o.op=.load 3 (.tmp 68)∧o.dst=some 69∧o.guard=none:=⟨_,rfl,rfl,rfl,rfl⟩
 have e68:=hA.get (t:=68) rfl
 refine lw_val (v:=.int .i64 cl) hA ho (wanted_none hg) (by decide) (by rw [hop];rfl) hd (by decide) (fun d=>by have z0:=cell 2 _ d rfl;unfold execOp;simp only [hop,e68];go_simp) (fun a (hA:Lvs 211 [(69,.int .i64 cl),(68,.pointer (some ⟨bx,2,none⟩)),(67,.int .i64 s),(66,.pointer (some ⟨bx,1,none⟩)),(65,vk),(1,scr),(2,vc),(5,.bool true),(6,vk),(8,vl),(9,.int .i64 i),(10,.pointer (some ⟨bx,0,none⟩))] a)=>?_)
 clear ho hop hd hg e68
 obtain ⟨o,ho,hop,hd,hg⟩:∃ o,(cnOps 14)[5]?=some o∧o.op=.fieldAddr 40 (.tmp 10) 3∧o.dst=some 70∧o.guard=none:=⟨_,rfl,rfl,rfl,rfl⟩
 have e10:=hA.get (t:=10) rfl
 refine lw_val (v:=.pointer (some ⟨bx,3,none⟩)) hA ho (wanted_none hg) (by decide) (by rw [hop];rfl) hd (by decide) (fun d=>by unfold execOp;simp only [hop,e10];go_simp) (fun a (hA:Lvs 211 [(70,.pointer (some ⟨bx,3,none⟩)),(69,.int .i64 cl),(68,.pointer (some ⟨bx,2,none⟩)),(67,.int .i64 s),(66,.pointer (some ⟨bx,1,none⟩)),(65,vk),(1,scr),(2,vc),(5,.bool true),(6,vk),(8,vl),(9,.int .i64 i),(10,.pointer (some ⟨bx,0,none⟩))] a)=>?_)
 clear ho hop hd hg e10
 obtain ⟨o,ho,hop,hd,hg⟩:∃ o,(cnOps 14)[6]?=some o∧o.op=.load 33 (.tmp 70)∧o.dst=some 71∧o.guard=none:=⟨_,rfl,rfl,rfl,rfl⟩
 have e70:=hA.get (t:=70) rfl
 refine lw_val (v:=.agg #[.int .i64 a0,.int .i64 a1,.int .i64 a2]) hA ho (wanted_none hg) (by decide) (by rw [hop];rfl) hd (by decide) (fun d=>by have z0:=cell 3 _ d rfl;have z1:=cell 4 _ d rfl;have z2:=cell 5 _ d rfl;unfold execOp;simp only [hop,e70];go_simp;try rfl) (fun a (hA:Lvs 211 [(71,.agg #[.int .i64 a0,.int .i64 a1,.int .i64 a2]),(70,.pointer (some ⟨bx,3,none⟩)),(69,.int .i64 cl),(68,.pointer (some ⟨bx,2,none⟩)),(67,.int .i64 s),(66,.pointer (some ⟨bx,1,none⟩)),(65,vk),(1,scr),(2,vc),(5,.bool true),(6,vk),(8,vl),(9,.int .i64 i),(10,.pointer (some ⟨bx,0,none⟩))] a)=>?_)
 clear ho hop hd hg e70
 have e65:=hA.get (t:=65) rfl
 have e67:=hA.get (t:=67) rfl
 have e69:=hA.get (t:=69) rfl
 have e71:=hA.get (t:=71) rfl
 exact lv_enter rfl rfl (by decide) rfl Tryd.func11 rfl rfl (by simp only [List.map_toArray,List.map_cons,List.map_nil,e65,e67,e69,e71]) (hn a (hA.sub (fun p hp=>by
  simp only [List.mem_cons,List.not_mem_nil,or_false] at hp
  rcases hp with rfl|rfl|rfl|rfl|rfl|rfl<;>rfl)))
set_option maxRecDepth 100000 in
theorem cn_11 {l:List OpD}{Stop:Goroutine→World→Prop}{w:World}{scr vc vk vl:Value}{i:Nat}(hi:i<9223372036854775807){a:Act}(hA:Lvs 211 [(1,scr),(2,vc),(5,.bool true),(6,vk),(8,vl),(9,.int .i64 (i:Nat))] a)(k:List Item)(cs:List Frame)
  (hn:∀ a',Lvs 211 [(1,scr),(2,vc),(5,.bool true),(6,vk),(8,vl),(9,.int .i64 ((i+1:Nat):Int))] a'→∀ d,Stop (G ((base 6).at a' (.code cnLoop1::.inLoop cnLoop1::k)) cs) (w.at d)) :
  Liv Tryd.prog true true (sfO l) Stop (G ((base 6).at a (.inBlock 2::.inBlock 1::.code (rg 11)::.inLoop cnLoop1::k)) cs) w:=by
 refine Br.liv_inBlock ?_
 refine Br.liv_inBlock ?_
 refine lw_region (n:=11) (m:=0) (il:=[0,1,2]) (by kernel_rfl) ?_
 refine lw_val (v:=.int .i64 (i:Nat)) hA rfl (wanted_none rfl) (by decide) (by kernel_rfl) rfl (by decide) (fun d=>run_move rfl (hA.get rfl)) (fun a (hA:Lvs 211 [(57,.int .i64 (i:Nat)),(1,scr),(2,vc),(5,.bool true),(6,vk),(8,vl),(9,.int .i64 (i:Nat))] a)=>?_)
 obtain ⟨o,ho,hop,hd,hg⟩:∃ o,(cnOps 11)[1]?=some o∧o.op=.binOp .add 3 (.tmp 57) (.const (.int .i64 1)) 3∧o.dst=some 58∧o.guard=none:=⟨_,rfl,rfl,rfl,rfl⟩
 have e57:=hA.get (t:=57) rfl
 refine lw_val (v:=.int .i64 ((i+1:Nat):Int)) hA ho (wanted_none hg) (by decide) (by rw [hop];rfl) hd (by decide) (fun d=>by have z0:IntKind.i64.wrap ((i:Int)+1)=((i+1:Nat):Int):=(by rw [IntKind.wrap_i64];omega);unfold execOp;simp only [hop,e57];go_simp) (fun a (hA:Lvs 211 [(58,.int .i64 ((i+1:Nat):Int)),(57,.int .i64 (i:Nat)),(1,scr),(2,vc),(5,.bool true),(6,vk),(8,vl),(9,.int .i64 (i:Nat))] a)=>?_)
 clear ho hop hd hg e57
 refine lw_val (v:=.int .i64 ((i+1:Nat):Int)) hA rfl (wanted_none rfl) (by decide) (by kernel_rfl) rfl (by decide) (fun d=>run_assign rfl (hA.get rfl)) (fun a (hA:Lvs 211 [(9,.int .i64 ((i+1:Nat):Int)),(58,.int .i64 ((i+1:Nat):Int)),(57,.int .i64 (i:Nat)),(1,scr),(2,vc),(5,.bool true),(6,vk),(8,vl)] a)=>?_)
 refine Br.liv_region_end ?_
 replace hA:Lvs 211 [(1,scr),(2,vc),(5,.bool true),(6,vk),(8,vl),(9,.int .i64 ((i+1:Nat):Int))] a:=hA.sub (fun p hp=>by
  simp only [List.mem_cons,List.not_mem_nil,or_false] at hp
  rcases hp with rfl|rfl|rfl|rfl|rfl|rfl<;>rfl)
 refine Br.liv_inLoop ?_
 exact fun d=>.stop (hn a hA d)
theorem Lvs.put_ne {sz:Nat}{env:List (Nat × Value)}{a:Act}(h:Lvs sz env a){d:Nat}{v:Value}(hne:∀ p∈env,p.1≠d):Lvs sz env (a.put (some d) v):=by
 refine ⟨by simp [Act.put,h.size],h.defers,fun p hp=>?_⟩
 simp only [Act.put]
 rw [Array.getElem?_setIfInBounds_ne (Ne.symm (hne p hp))]
 exact h.has p hp
theorem grown_at (w:World)(d:Nat):Grown w (w.at d):=⟨Nat.le_refl _,fun _ _=>rfl,trivial⟩
section
variable {kb:Kb} {l:List OpD} {K:Ker} {L:Nat→Option Lv} {r:Nat} {Inb:Nat→Option Seat} {nG:Nat} {w w':World}
theorem Co.bkMn (co:Co kb l K L r Inb nG w):Mn kb L w kb.bk:=by
 have R:=co.env.rep
 refine ⟨R.lk,R.kf,R.ks,R.kd,fun g v hv=>⟨fun hi=>?_,fun hc=>?_⟩⟩
 ·obtain ⟨f,u,A⟩:=co.at_ g v hv
  have:=(A.own.ap _ hi).1
  rw [(co.onk g v hv).k] at this
  exact this rfl
 ·exact (co.chan g v hv _ hc).2.1 rfl
theorem Co.nS (co:Co kb l K L r Inb nG w){l':List OpD}{K':Ker}{L':Nat→Option Lv}{r':Nat}{Inb':Nat→Option Seat}{nG':Nat}(co':Co kb l' K' L' r' Inb' nG' w')(hk:w'.heap[kb.bk]?=w.heap[kb.bk]?):K'.nS=K.nS:=(sizes_of co.env.rep co'.env.rep hk).2.1
end
set_option maxRecDepth 100000 in
theorem cn_stop {l:List OpD}{Stop:Goroutine→World→Prop}{w:World}{len cap cB:Nat}{sa:Option Addr}{kb:Kb}{b:Lb}{a:Act}(hA:Lvs 211 [(1,.slice sa len cap),(2,.pointer (some ⟨cB,0,none⟩)),(5,.bool true),(6,.pointer (some ⟨kb.bk,0,none⟩)),(8,.pointer (some ⟨b.bl,0,none⟩)),(9,.int .i64 len)] a)(k:List Item)(cs:List Frame)
  (hn:∀ a',Lvs 211 [(1,.slice sa len cap),(2,.pointer (some ⟨cB,0,none⟩)),(5,.bool true),(6,.pointer (some ⟨kb.bk,0,none⟩)),(8,.pointer (some ⟨b.bl,0,none⟩)),(9,.int .i64 len)] a'→∀ d,Stop (G ((base 6).at a' k) cs) (w.at d)) :
  Liv Tryd.prog true true (sfO l) Stop (G ((base 6).at a (.code cnLoop1::.inLoop cnLoop1::.inBlock 0::k)) cs) w:=by
 unfold cnLoop1
 refine Br.liv_seq ?_
 refine Br.liv_seq ?_
 refine lw_region (n:=10) (m:=0) (il:=[0,1,2,3]) (by kernel_rfl) ?_
 refine lw_val (v:=.int .i64 len) hA rfl (wanted_none rfl) (by decide) (by kernel_rfl) rfl (by decide) (fun d=>run_move rfl (hA.get rfl)) (fun a (hA:Lvs 211 [(53,.int .i64 len),(1,.slice sa len cap),(2,.pointer (some ⟨cB,0,none⟩)),(5,.bool true),(6,.pointer (some ⟨kb.bk,0,none⟩)),(8,.pointer (some ⟨b.bl,0,none⟩)),(9,.int .i64 len)] a)=>?_)
 refine lw_val (v:=.slice sa len cap) hA rfl (wanted_none rfl) (by decide) (by kernel_rfl) rfl (by decide) (fun d=>run_move rfl (hA.get rfl)) (fun a (hA:Lvs 211 [(54,.slice sa len cap),(53,.int .i64 len),(1,.slice sa len cap),(2,.pointer (some ⟨cB,0,none⟩)),(5,.bool true),(6,.pointer (some ⟨kb.bk,0,none⟩)),(8,.pointer (some ⟨b.bl,0,none⟩)),(9,.int .i64 len)] a)=>?_)
 have e54:=hA.get (t:=54) rfl
 refine lw_val (v:=.int .i64 len) hA rfl (wanted_none rfl) (by decide) (by kernel_rfl) rfl (by decide) (fun d=>run_len rfl Tryd.underlying35 e54) (fun a (hA:Lvs 211 [(55,.int .i64 len),(54,.slice sa len cap),(53,.int .i64 len),(1,.slice sa len cap),(2,.pointer (some ⟨cB,0,none⟩)),(5,.bool true),(6,.pointer (some ⟨kb.bk,0,none⟩)),(8,.pointer (some ⟨b.bl,0,none⟩)),(9,.int .i64 len)] a)=>?_)
 clear e54
 obtain ⟨o,ho,hop,hd,hg⟩:∃ o,(cnOps 10)[3]?=some o∧o.op=.binOp .lss 3 (.tmp 53) (.tmp 55) 3∧o.dst=some 56∧o.guard=none:=⟨_,rfl,rfl,rfl,rfl⟩
 have e53:=hA.get (t:=53) rfl
 have e55:=hA.get (t:=55) rfl
 refine lw_val (v:=.bool false) hA ho (wanted_none hg) (by decide) (by rw [hop];rfl) hd (by decide) (fun d=>by unfold execOp;simp only [hop,e53,e55];go_simp) (fun a (hA:Lvs 211 [(56,.bool false),(55,.int .i64 len),(54,.slice sa len cap),(53,.int .i64 len),(1,.slice sa len cap),(2,.pointer (some ⟨cB,0,none⟩)),(5,.bool true),(6,.pointer (some ⟨kb.bk,0,none⟩)),(8,.pointer (some ⟨b.bl,0,none⟩)),(9,.int .i64 len)] a)=>?_)
 clear ho hop hd hg e53 e55
 refine Br.liv_region_end ?_
 replace hA:Lvs 211 [(1,.slice sa len cap),(2,.pointer (some ⟨cB,0,none⟩)),(5,.bool true),(6,.pointer (some ⟨kb.bk,0,none⟩)),(8,.pointer (some ⟨b.bl,0,none⟩)),(9,.int .i64 len),(56,.bool false)] a:=hA.sub (fun p hp=>by
  simp only [List.mem_cons,List.not_mem_nil,or_false] at hp
  rcases hp with rfl|rfl|rfl|rfl|rfl|rfl|rfl<;>rfl)
 refine Br.liv_cond (t:=false) (hA.get rfl) ?_
 refine Br.liv_exit (k':=k) (by rfl) ?_
 exact fun d=>.stop (hn a (hA.sub (fun p hp=>by
  simp only [List.mem_cons,List.not_mem_nil,or_false] at hp
  rcases hp with rfl|rfl|rfl|rfl|rfl|rfl<;>rfl)) d)
set_option maxRecDepth 100000 in
theorem cn_loop {Final:Machine→Trace→Prop}{w0:World}{kb:Kb}{b:Lb}{n len cap cB:Nat}{sa:Option Addr}(hlen:len≤4398046511104)(hS:Script w0 sa len)(e:Nat)(k:List Item)(cs:List Frame)
  (hdone:∀ l K L Inb nG w U V N Xs a,CI w0 kb b n len l K L e Inb nG w U V N Xs→Lvs 211 [(1,.slice sa len cap),(2,.pointer (some ⟨cB,0,none⟩)),(5,.bool true),(6,.pointer (some ⟨kb.bk,0,none⟩)),(8,.pointer (some ⟨b.bl,0,none⟩)),(9,.int .i64 len)] a→X Tryd.prog Final l Inb nG 0 (G ((base 6).at a k) cs) w) :
  ∀ m i,m+i=len→∀ l K L Inb nG w U V N Xs a,CI w0 kb b n i l K L (m+e) Inb nG w U V N Xs→Lvs 211 [(1,.slice sa len cap),(2,.pointer (some ⟨cB,0,none⟩)),(5,.bool true),(6,.pointer (some ⟨kb.bk,0,none⟩)),(8,.pointer (some ⟨b.bl,0,none⟩)),(9,.int .i64 i)] a→X Tryd.prog Final l Inb nG 0 (G ((base 6).at a (.code cnLoop1::.inLoop cnLoop1::.inBlock 0::k)) cs) w:=by
 intro m
 induction m with
 | zero =>
  intro i hi l K L Inb nG w U V N Xs a ci hA
  obtain rfl:i=len:=by omega
  rw [Nat.zero_add] at ci
  exact x_liv (cn_stop hA k cs fun a' hA' d=>hdone _ _ _ _ _ _ _ _ _ _ a' (ci.grown (grown_at w d)) hA')
 | succ m ih =>
  intro i hi l K L Inb nG w U V N Xs a ci hA
  have hlt:i<len:=by omega
  rw [show m+1+e=(m+e)+1 by omega] at ci
  have tail:∀ l K L Inb nG w U V N Xs a,CI w0 kb b n (i+1) l K L (m+e) Inb nG w U V N Xs→Lvs 211 [(1,.slice sa len cap),(2,.pointer (some ⟨cB,0,none⟩)),(5,.bool true),(6,.pointer (some ⟨kb.bk,0,none⟩)),(8,.pointer (some ⟨b.bl,0,none⟩)),(9,.int .i64 i)] a→X Tryd.prog Final l Inb nG 0 (G ((base 6).at a (.inBlock 2::.inBlock 1::.code (rg 11)::.inLoop cnLoop1::.inBlock 0::k)) cs) w:=fun l K L Inb nG w U V N Xs a ci hA =>
   x_liv (cn_11 (by omega) hA _ cs fun a' hA' d=>ih (i+1) (by omega) l K L Inb nG (w.at d) U V N Xs a' (ci.grown (grown_at w d)) hA')
  have ret:∀ (ops:Array Oper) (j D:Nat) (o:Oper),ops[j]?=some o→o.dst=some D→(∀ p∈([1,2,5,6,8,9]:List Nat),p≠D)→∀ l K L Inb nG w U V N Xs a x,CI w0 kb b n (i+1) l K L (m+e) Inb nG w U V N Xs→Lvs 211 [(1,.slice sa len cap),(2,.pointer (some ⟨cB,0,none⟩)),(5,.bool true),(6,.pointer (some ⟨kb.bk,0,none⟩)),(8,.pointer (some ⟨b.bl,0,none⟩)),(9,.int .i64 i)] a →
    X Tryd.prog Final l Inb nG 0 (G (((base 6).at a (.inRegion ops [j] :: .inBlock 2::.inBlock 1::.code (rg 11)::.inLoop cnLoop1::.inBlock 0::k)).finish x) cs) w:=fun ops j D o ho hd hne l K L Inb nG w U V N Xs a x ci hA=>by
   rw [fin_at ho,hd]
   refine x_liv (Br.liv_region_end ?_)
   exact fun d=>.stop (tail l K L Inb nG (w.at d) U V N Xs _ (ci.grown (grown_at w d)) (hA.put_ne fun p hp=>by
    simp only [List.mem_cons,List.not_mem_nil,or_false] at hp
    rcases hp with rfl|rfl|rfl|rfl|rfl|rfl<;>exact hne _ (by simp)))
  obtain ⟨g,q0,ka,s,cl,a0,a1,a2,o0,o1,o2,bb,rfl,hg,hr⟩:=hS i hlt
  have LA:w.rangeAt g (q0+i*10) (actCells ka s cl a0 a1 a2 o0 o1 o2 bb):=fun j v hv=>(World.cell?_of_block (w:=w0) (ci.old g hg).2).trans (hr j v hv)
  refine x_liv (cn_head ci.co.env.fit ci.co.env.ko hlt LA hA _ cs (fun h2 a' w' hG hX hA'=>?_) (fun h2 h3 a' w' hG hX hA'=>?_) (fun h2 h3 a' w' hG hX hA'=>?_))
  ·refine cn_16 hX hA' _ cs (fun a2 hA2 d=>?_)
   have ci':=ci.grown (hG.trans (grown_at w' d))
   have ok:=ret (cnOps 16) 5 80 _ rfl rfl (by decide)
   refine main_Begin ci'.co ci'.hn ci'.lm ci'.g0 s o0 o1 o2 _ cs (fun _ w2 h=>ok _ _ _ _ _ w2 _ _ _ _ _ _ (((ci'.grown h).less (by omega)).more (by omega)) hA2) (fun _ _ _ w2 h=>ok _ _ _ _ _ w2 _ _ _ _ _ _ (((ci'.grown h).less (by omega)).more (by omega)) hA2) (fun _ _ p o _ _ _ w2 h=>ok _ _ _ _ _ w2 _ _ _ _ _ _ (((ci'.grown h).less (by omega)).more (by omega)) hA2) (fun _ _ p hs hp hU w2 C H Inb' c1 c2 c3 c4 c5 c6 c7 c8 c9=>?_)
   exact ok _ _ _ _ _ w2 _ _ _ _ _ _ (((ci'.begun hp hU c6 c7 c8 c9).less (by omega)).more (by omega)) hA2
  ·refine cn_18 hX hA' _ cs (fun a2 hA2 d=>?_)
   have ci':=ci.grown (hG.trans (grown_at w' d))
   have ok:=ret (cnOps 18) 3 86 _ rfl rfl (by decide)
   refine main_pick ci'.co ci'.hn ci'.lm (fun p hp=>by have:=ci'.nb p hp;omega) ci'.u1 s _ cs (fun _ w2 h=>ok _ _ _ _ _ w2 _ _ _ _ _ _ (((ci'.grown h).less (by omega)).more (by omega)) hA2) (fun p _ _ _ w2 h=>ok _ _ _ _ _ w2 _ _ _ _ _ _ (((ci'.grown h).less (by omega)).more (by omega)) hA2)
    (fun p v hs hp hU hsl hv w2 v' Inb' hC _ _ co2 kp lm2=>?_) (fun p v hs hp hU hsl hv w2 Inb' val err g2 cap2 _ co2 hk lm2=>?_)
   ·exact ok _ _ _ _ _ w2 _ _ _ _ _ _ ((ci'.goes hv hC co2 (ci'.co.nS co2 (kp _ ci'.co.bkMn).2) kp lm2).more (by omega)) hA2
   ·refine ok _ _ _ _ _ w2 _ _ _ _ _ _ (ci'.over hp hU hv co2 (ci'.co.nS co2 (hk _ ci'.co.bkMn (fun h=>?_)).2) hk lm2) hA2
    rcases h with h|h|h
    ·exact ci'.lm.m.mbu.bk h.symm
    ·exact ci'.lm.m.mbn.bk h.symm
    ·exact (ci'.lm.m.mls p hp _ h).bk rfl
  ·refine cn_14 hX hA' _ cs (fun a2 hA2 d=>?_)
   have ci':=ci.grown (hG.trans (grown_at w' d))
   have ok:=ret (cnOps 14) 7 72 _ rfl rfl (by decide)
   refine x_liv (fun d1=>(must_mcall ci'.co s cl _ _ _ _ cs d1).mono (fun _ _ _ h=>h) ?_)
   rintro g2 w2 ⟨rfl,co2,kp⟩
   exact ok _ _ _ _ _ w2 _ _ _ _ _ _ (((ci'.call co2 (ci'.co.nS co2 (kp _ ci'.co.bkMn).2) kp).less (by omega)).more (by omega)) hA2
structure EX (ks:List (Nat × Obj)) (kb:Kb) (b:Lb) (l:List OpD) (L:Nat→Option Lv) (w:World):Prop where
 mn:∀ p∈ks,Mn kb L w p.1
 rc:∀ p∈ks,∀ o∈l,o.bo≠p.1
 nu:∀ p∈ks,p.1≠b.bu
 has:∀ p∈ks,w.heap[p.1]?=some p.2
section
variable {ks:List (Nat × Obj)} {kb:Kb} {b:Lb} {l:List OpD} {K:Ker} {L L':Nat→Option Lv} {r:Nat} {Inb:Nat→Option Seat} {nG:Nat} {w w':World}
end
def stRow (K:Ker)(gF gS gD:Nat):Array Value:=#[.slice (some ⟨gF,0,none⟩) K.nF K.nF,.slice (some ⟨gS,0,none⟩) K.nS K.nS,.slice (some ⟨gD,0,none⟩) K.nD K.nD]
theorem must_mstateX {kb:Kb}{l:List OpD}{K:Ker}{L:Nat→Option Lv}{r:Nat}{Inb:Nat→Option Seat}{nG:Nat}{w:World}(co:Co kb l K L r Inb nG w)(fr:Frame)(cs:List Frame)(d:Nat) :
  Must Tryd.prog true (DL true (sfO l)) (fun g w'=>∃ x,g=G (fr.finish x) cs∧∃ gF gS gD,x=.agg (stRow K gF gS gD)∧Grown w w'∧Snap w' gF gS gD K∧w.heap.size≤gF∧w.heap.size≤gS∧w.heap.size≤gD)
   (G (Frame.enter Tryd.prog 13 #[.pointer (some ⟨kb.bk,0,none⟩)] .normal) (fr::cs)) (w.at d) :=
 (must_mstate co fr cs d).mono (fun _ _ _ h=>h) fun g w' ⟨gF,gS,gD,h,h'⟩=>⟨_,h,gF,gS,gD,rfl,h'⟩
set_option maxRecDepth 100000 in
theorem cn_19 {kb:Kb}{l:List OpD}{K:Ker}{L:Nat→Option Lv}{r:Nat}{Inb:Nat→Option Seat}{nG:Nat}{w:World}{Stop:Goroutine→World→Prop}{vc vo vl:Value}(co:Co kb l K L r Inb nG w){a:Act}(hA:Lvs 211 [(2,vc),(5,vo),(6,.pointer (some ⟨kb.bk,0,none⟩)),(8,vl)] a)(k:List Item)(cs:List Frame)
  (hn:∀ a' w' gF gS gD bx,Grown w w'→Snap w' gF gS gD K→w.heap.size≤gF→w.heap.size≤gS→w.heap.size≤gD→w.heap.size≤bx→w'.heap[bx]?=some (.cells (stRow K gF gS gD) 45 (0,0))→Lvs 211 [(2,vc),(5,vo),(6,.pointer (some ⟨kb.bk,0,none⟩)),(8,vl),(11,.pointer (some ⟨bx,0,none⟩))] a'→Liv Tryd.prog true true (sfO l) Stop (G ((base 6).at a' k) cs) w') :
  Liv Tryd.prog true true (sfO l) Stop (G ((base 6).at a (.code (rg 19)::k)) cs) w:=by
 refine lw_region (n:=19) (m:=0) (il:=[0,1,2,3]) (by kernel_rfl) ?_
 refine lw_val (v:=.pointer (some ⟨kb.bk,0,none⟩)) hA rfl (wanted_none rfl) (by decide) (by kernel_rfl) rfl (by decide) (fun d=>run_move rfl (hA.get rfl)) (fun a (hA:Lvs 211 [(87,.pointer (some ⟨kb.bk,0,none⟩)),(2,vc),(5,vo),(6,.pointer (some ⟨kb.bk,0,none⟩)),(8,vl)] a)=>?_)
 have e87:=hA.get (t:=87) rfl
 refine lw_call (vs:=#[.pointer (some ⟨kb.bk,0,none⟩)]) hA rfl rfl (by decide) rfl rfl (by decide) Tryd.func13 rfl rfl (by simp only [List.map_toArray,List.map_cons,List.map_nil,e87]) (fun fr cs d=>must_mstateX co fr cs d) (fun u w' hR a hA=>?_)
 obtain ⟨gF,gS,gD,rfl,hG,hSn,g1,g2,g3⟩:=hR
 replace hA:Lvs 211 [(88,.agg (stRow K gF gS gD)),(87,.pointer (some ⟨kb.bk,0,none⟩)),(2,vc),(5,vo),(6,.pointer (some ⟨kb.bk,0,none⟩)),(8,vl)] a:=hA
 have lo:=hG.size
 obtain ⟨o',ho,hop,hd,hg⟩:∃ o',(cnOps 19)[2]?=some o'∧o'.op=.alloc 45∧o'.dst=some 11∧o'.guard=none:=⟨_,rfl,rfl,rfl,rfl⟩
 refine lw_made (ob:=.cells #[.slice none 0 0,.slice none 0 0,.slice none 0 0] 45 (0,0)) (v:=.pointer (some ⟨w'.heap.size,0,none⟩)) hA ho hg (by decide) hd (by decide) (fun d=>by unfold execOp;simp only [hop];go_simp;try rfl) (fun d=>by unfold execOp;simp only [hop];simp [go_sem]) trivial (fun a (hA:Lvs 211 [(11,.pointer (some ⟨w'.heap.size,0,none⟩)),(88,.agg (stRow K gF gS gD)),(87,.pointer (some ⟨kb.bk,0,none⟩)),(2,vc),(5,vo),(6,.pointer (some ⟨kb.bk,0,none⟩)),(8,vl)] a)=>?_)
 clear ho hop hd hg
 have hG1:=grown_alloc (w:=w') trivial (ob:=.cells #[.slice none 0 0,.slice none 0 0,.slice none 0 0] 45 (0,0)) trivial
 have hX:=heap_alloc_new w' (.cells #[.slice none 0 0,.slice none 0 0,.slice none 0 0] 45 (0,0))
 have hs1:(w'.alloc (.cells #[.slice none 0 0,.slice none 0 0,.slice none 0 0] 45 (0,0))).heap.size=w'.heap.size+1:=by simp
 generalize w'.alloc (.cells #[.slice none 0 0,.slice none 0 0,.slice none 0 0] 45 (0,0))=w1 at *
 have co1:=co.grown (hG.trans hG1)
 have e1:=hA.get (t:=11) rfl
 have e2:=hA.get (t:=88) rfl
 obtain ⟨o',ho,hop,hd,hg⟩:∃ o',(cnOps 19)[3]?=some o'∧o'.op=.store 45 (.tmp 11) (.tmp 88)∧o'.dst=none∧o'.guard=none:=⟨_,rfl,rfl,rfl,rfl⟩
 refine lw_storeRow hA ho hg (by decide) hop hd co1.env.fit e1 e2 hX (by rfl) (by kernel_rfl) (by kernel_rfl) (Br.sfO_zero fun o ho=>by have:=Br.KO.lt co.env.ko ho;omega) (fun w2 hs2 hk2 hX2=>?_)
 clear ho hop hd hg e1 e2
 have hG2:Grown w' w2:=⟨by omega,fun j hj=>by rw [hk2 j (by omega)];exact hG1.old j hj,trivial⟩
 refine Br.liv_region_end ?_
 replace hA:Lvs 211 [(2,vc),(5,vo),(6,.pointer (some ⟨kb.bk,0,none⟩)),(8,vl),(11,.pointer (some ⟨w'.heap.size,0,none⟩))] a:=hA.sub (fun p hp=>by
  simp only [List.mem_cons,List.not_mem_nil,or_false] at hp
  rcases hp with rfl|rfl|rfl|rfl|rfl<;>rfl)
 exact hn a w2 gF gS gD w'.heap.size (hG.trans hG2) (hSn.same fun j hj=>hG2.old j (by rcases hj with rfl|rfl|rfl;exact row_lt hSn.f;exact row_lt hSn.s;exact row_lt hSn.d)) g1 g2 g3 lo hX2 hA
set_option maxRecDepth 100000 in
theorem cn_28 {kb:Kb}{l:List OpD}{K:Ker}{L:Nat→Option Lv}{r:Nat}{Inb:Nat→Option Seat}{nG:Nat}{w:World}{Stop:Goroutine→World→Prop}{vc vo vl vb vd:Value}(co:Co kb l K L r Inb nG w){a:Act}(hA:Lvs 211 [(2,vc),(5,vo),(6,.pointer (some ⟨kb.bk,0,none⟩)),(8,vl),(11,vb),(12,vd)] a)(k:List Item)(cs:List Frame)
  (hn:∀ a' w' gF gS gD bx,Grown w w'→Snap w' gF gS gD K→w.heap.size≤gF→w.heap.size≤gS→w.heap.size≤gD→w.heap.size≤bx→w'.heap[bx]?=some (.cells (stRow K gF gS gD) 45 (0,0))→Lvs 211 [(2,vc),(5,vo),(6,.pointer (some ⟨kb.bk,0,none⟩)),(8,vl),(11,vb),(12,vd),(16,.pointer (some ⟨bx,0,none⟩))] a'→Liv Tryd.prog true true (sfO l) Stop (G ((base 6).at a' k) cs) w') :
  Liv Tryd.prog true true (sfO l) Stop (G ((base 6).at a (.code (rg 28)::k)) cs) w:=by
 refine lw_region (n:=28) (m:=0) (il:=[0,1,2,3]) (by kernel_rfl) ?_
 refine lw_val (v:=.pointer (some ⟨kb.bk,0,none⟩)) hA rfl (wanted_none rfl) (by decide) (by kernel_rfl) rfl (by decide) (fun d=>run_move rfl (hA.get rfl)) (fun a (hA:Lvs 211 [(112,.pointer (some ⟨kb.bk,0,none⟩)),(2,vc),(5,vo),(6,.pointer (some ⟨kb.bk,0,none⟩)),(8,vl),(11,vb),(12,vd)] a)=>?_)
 have e112:=hA.get (t:=112) rfl
 refine lw_call (vs:=#[.pointer (some ⟨kb.bk,0,none⟩)]) hA rfl rfl (by decide) rfl rfl (by decide) Tryd.func13 rfl rfl (by simp only [List.map_toArray,List.map_cons,List.map_nil,e112]) (fun fr cs d=>must_mstateX co fr cs d) (fun u w' hR a hA=>?_)
 obtain ⟨gF,gS,gD,rfl,hG,hSn,g1,g2,g3⟩:=hR
 replace hA:Lvs 211 [(113,.agg (stRow K gF gS gD)),(112,.pointer (some ⟨kb.bk,0,none⟩)),(2,vc),(5,vo),(6,.pointer (some ⟨kb.bk,0,none⟩)),(8,vl),(11,vb),(12,vd)] a:=hA
 have lo:=hG.size
 obtain ⟨o',ho,hop,hd,hg⟩:∃ o',(cnOps 28)[2]?=some o'∧o'.op=.alloc 45∧o'.dst=some 16∧o'.guard=none:=⟨_,rfl,rfl,rfl,rfl⟩
 refine lw_made (ob:=.cells #[.slice none 0 0,.slice none 0 0,.slice none 0 0] 45 (0,0)) (v:=.pointer (some ⟨w'.heap.size,0,none⟩)) hA ho hg (by decide) hd (by decide) (fun d=>by unfold execOp;simp only [hop];go_simp;try rfl) (fun d=>by unfold execOp;simp only [hop];simp [go_sem]) trivial (fun a (hA:Lvs 211 [(16,.pointer (some ⟨w'.heap.size,0,none⟩)),(113,.agg (stRow K gF gS gD)),(112,.pointer (some ⟨kb.bk,0,none⟩)),(2,vc),(5,vo),(6,.pointer (some ⟨kb.bk,0,none⟩)),(8,vl),(11,vb),(12,vd)] a)=>?_)
 clear ho hop hd hg
 have hG1:=grown_alloc (w:=w') trivial (ob:=.cells #[.slice none 0 0,.slice none 0 0,.slice none 0 0] 45 (0,0)) trivial
 have hX:=heap_alloc_new w' (.cells #[.slice none 0 0,.slice none 0 0,.slice none 0 0] 45 (0,0))
 have hs1:(w'.alloc (.cells #[.slice none 0 0,.slice none 0 0,.slice none 0 0] 45 (0,0))).heap.size=w'.heap.size+1:=by simp
 generalize w'.alloc (.cells #[.slice none 0 0,.slice none 0 0,.slice none 0 0] 45 (0,0))=w1 at *
 have co1:=co.grown (hG.trans hG1)
 have e1:=hA.get (t:=16) rfl
 have e2:=hA.get (t:=113) rfl
 obtain ⟨o',ho,hop,hd,hg⟩:∃ o',(cnOps 28)[3]?=some o'∧o'.op=.store 45 (.tmp 16) (.tmp 113)∧o'.dst=none∧o'.guard=none:=⟨_,rfl,rfl,rfl,rfl⟩
 refine lw_storeRow hA ho hg (by decide) hop hd co1.env.fit e1 e2 hX (by rfl) (by kernel_rfl) (by kernel_rfl) (Br.sfO_zero fun o ho=>by have:=Br.KO.lt co.env.ko ho;omega) (fun w2 hs2 hk2 hX2=>?_)
 clear ho hop hd hg e1 e2
 have hG2:Grown w' w2:=⟨by omega,fun j hj=>by rw [hk2 j (by omega)];exact hG1.old j hj,trivial⟩
 refine Br.liv_region_end ?_
 replace hA:Lvs 211 [(2,vc),(5,vo),(6,.pointer (some ⟨kb.bk,0,none⟩)),(8,vl),(11,vb),(12,vd),(16,.pointer (some ⟨w'.heap.size,0,none⟩))] a:=hA.sub (fun p hp=>by
  simp only [List.mem_cons,List.not_mem_nil,or_false] at hp
  rcases hp with rfl|rfl|rfl|rfl|rfl|rfl|rfl<;>rfl)
 exact hn a w2 gF gS gD w'.heap.size (hG.trans hG2) (hSn.same fun j hj=>hG2.old j (by rcases hj with rfl|rfl|rfl;exact row_lt hSn.f;exact row_lt hSn.s;exact row_lt hSn.d)) g1 g2 g3 lo hX2 hA
set_option maxRecDepth 100000 in
theorem cn_38 {kb:Kb}{l:List OpD}{K:Ker}{L:Nat→Option Lv}{r:Nat}{Inb:Nat→Option Seat}{nG:Nat}{w:World}{Stop:Goroutine→World→Prop}{vo vl vb vd vs:Value}(co:Co kb l K L r Inb nG w){a:Act}(hA:Lvs 211 [(5,vo),(6,.pointer (some ⟨kb.bk,0,none⟩)),(8,vl),(11,vb),(12,vd),(17,vs)] a)(k:List Item)(cs:List Frame)
  (hn:∀ a' w' gF gS gD bx,Grown w w'→Snap w' gF gS gD K→w.heap.size≤gF→w.heap.size≤gS→w.heap.size≤gD→w.heap.size≤bx→w'.heap[bx]?=some (.cells (stRow K gF gS gD) 45 (0,0))→Lvs 211 [(5,vo),(6,.pointer (some ⟨kb.bk,0,none⟩)),(8,vl),(11,vb),(12,vd),(17,vs),(25,.pointer (some ⟨bx,0,none⟩))] a'→Liv Tryd.prog true true (sfO l) Stop (G ((base 6).at a' k) cs) w') :
  Liv Tryd.prog true true (sfO l) Stop (G ((base 6).at a (.code (rg 38)::k)) cs) w:=by
 refine lw_region (n:=38) (m:=0) (il:=[0,1,2,3]) (by kernel_rfl) ?_
 refine lw_val (v:=.pointer (some ⟨kb.bk,0,none⟩)) hA rfl (wanted_none rfl) (by decide) (by kernel_rfl) rfl (by decide) (fun d=>run_move rfl (hA.get rfl)) (fun a (hA:Lvs 211 [(165,.pointer (some ⟨kb.bk,0,none⟩)),(5,vo),(6,.pointer (some ⟨kb.bk,0,none⟩)),(8,vl),(11,vb),(12,vd),(17,vs)] a)=>?_)
 have e165:=hA.get (t:=165) rfl
 refine lw_call (vs:=#[.pointer (some ⟨kb.bk,0,none⟩)]) hA rfl rfl (by decide) rfl rfl (by decide) Tryd.func13 rfl rfl (by simp only [List.map_toArray,List.map_cons,List.map_nil,e165]) (fun fr cs d=>must_mstateX co fr cs d) (fun u w' hR a hA=>?_)
 obtain ⟨gF,gS,gD,rfl,hG,hSn,g1,g2,g3⟩:=hR
 replace hA:Lvs 211 [(166,.agg (stRow K gF gS gD)),(165,.pointer (some ⟨kb.bk,0,none⟩)),(5,vo),(6,.pointer (some ⟨kb.bk,0,none⟩)),(8,vl),(11,vb),(12,vd),(17,vs)] a:=hA
 have lo:=hG.size
 obtain ⟨o',ho,hop,hd,hg⟩:∃ o',(cnOps 38)[2]?=some o'∧o'.op=.alloc 45∧o'.dst=some 25∧o'.guard=none:=⟨_,rfl,rfl,rfl,rfl⟩
 refine lw_made (ob:=.cells #[.slice none 0 0,.slice none 0 0,.slice none 0 0] 45 (0,0)) (v:=.pointer (some ⟨w'.heap.size,0,none⟩)) hA ho hg (by decide) hd (by decide) (fun d=>by unfold execOp;simp only [hop];go_simp;try rfl) (fun d=>by unfold execOp;simp only [hop];simp [go_sem]) trivial (fun a (hA:Lvs 211 [(25,.pointer (some ⟨w'.heap.size,0,none⟩)),(166,.agg (stRow K gF gS gD)),(165,.pointer (some ⟨kb.bk,0,none⟩)),(5,vo),(6,.pointer (some ⟨kb.bk,0,none⟩)),(8,vl),(11,vb),(12,vd),(17,vs)] a)=>?_)
 clear ho hop hd hg
 have hG1:=grown_alloc (w:=w') trivial (ob:=.cells #[.slice none 0 0,.slice none 0 0,.slice none 0 0] 45 (0,0)) trivial
 have hX:=heap_alloc_new w' (.cells #[.slice none 0 0,.slice none 0 0,.slice none 0 0] 45 (0,0))
 have hs1:(w'.alloc (.cells #[.slice none 0 0,.slice none 0 0,.slice none 0 0] 45 (0,0))).heap.size=w'.heap.size+1:=by simp
 generalize w'.alloc (.cells #[.slice none 0 0,.slice none 0 0,.slice none 0 0] 45 (0,0))=w1 at *
 have co1:=co.grown (hG.trans hG1)
 have e1:=hA.get (t:=25) rfl
 have e2:=hA.get (t:=166) rfl
 obtain ⟨o',ho,hop,hd,hg⟩:∃ o',(cnOps 38)[3]?=some o'∧o'.op=.store 45 (.tmp 25) (.tmp 166)∧o'.dst=none∧o'.guard=none:=⟨_,rfl,rfl,rfl,rfl⟩
 refine lw_storeRow hA ho hg (by decide) hop hd co1.env.fit e1 e2 hX (by rfl) (by kernel_rfl) (by kernel_rfl) (Br.sfO_zero fun o ho=>by have:=Br.KO.lt co.env.ko ho;omega) (fun w2 hs2 hk2 hX2=>?_)
 clear ho hop hd hg e1 e2
 have hG2:Grown w' w2:=⟨by omega,fun j hj=>by rw [hk2 j (by omega)];exact hG1.old j hj,trivial⟩
 refine Br.liv_region_end ?_
 replace hA:Lvs 211 [(5,vo),(6,.pointer (some ⟨kb.bk,0,none⟩)),(8,vl),(11,vb),(12,vd),(17,vs),(25,.pointer (some ⟨w'.heap.size,0,none⟩))] a:=hA.sub (fun p hp=>by
  simp only [List.mem_cons,List.not_mem_nil,or_false] at hp
  rcases hp with rfl|rfl|rfl|rfl|rfl|rfl|rfl<;>rfl)
 exact hn a w2 gF gS gD w'.heap.size (hG.trans hG2) (hSn.same fun j hj=>hG2.old j (by rcases hj with rfl|rfl|rfl;exact row_lt hSn.f;exact row_lt hSn.s;exact row_lt hSn.d)) g1 g2 g3 lo hX2 hA
end Go.Proofs.YtcgabodkegcpgaaDoor
