/- burrowlaw.ends in company: its pieces. -/
import Derived.Test.YtcgabodkegcpgaaDoorEnx
import Derived.Laws.ResultCell
set_option linter.unusedVariables false
set_option linter.unusedSimpArgs false
set_option maxHeartbeats 20000000
set_option maxRecDepth 100000
namespace Go.Proofs.YtcgabodkegcpgaaDoor
open Go.Conc Go.RowKit
open Br (X OpD KO SO SP sfO Lk Fit Must DL Liv Clear)
noncomputable def enOps (n:Nat):Array Oper:=((Tryd.f23.body).bind (regionOf n)).getD #[]
noncomputable abbrev rn (n:Nat):Code:=.region n (enOps n) false
noncomputable def enOver:Code:=.seq (rn 11) (.seq (.seq (.region 12 (enOps 12) true) (.cond (.tmp 58) (.seq (rn 13) .ret) .skip)) (.seq (rn 14) .ret))
noncomputable def enTurn:Code:=.seq (.seq (rn 8) (.cond (.tmp 32) (.seq (rn 9) .ret) .skip)) (.seq (rn 10) (.cond (.tmp 34) enOver .skip))
noncomputable def enLoop:Code:=.seq (.seq (rn 5) (.cond (.tmp 22) .skip (.exit 0))) (.seq (.block 1 (.seq (rn 7) enTurn)) (rn 6))
noncomputable def enRest:Code:=.seq (.seq (rn 2) (.cond (.tmp 19) (.seq (rn 3) .ret) .skip)) (.seq (.seq (rn 4) (.block 0 (.loop enLoop))) (.seq (rn 15) .ret))
noncomputable def enBody:Code:=.seq (rn 0) (.seq (rn 1) enRest)
theorem en_body:Tryd.f23.body=some enBody:=by kernel_rfl
theorem en_enter (v0 v1 v2:Value):∃ a,Frame.enter Tryd.prog 23 #[v0,v1,v2] .normal=(base 23).at a [.code enBody]∧Lvs 67 [(0,v0),(1,v1),(2,v2)] a:=by
 refine ⟨_,enter_at (c:=enBody) _ Tryd.func23 en_body,?_⟩
 have e:Tryd.f23.ntmps=67:=by kernel_rfl
 refine ⟨by simp [e],rfl,fun p hp=>?_⟩
 simp only [List.mem_cons,List.not_mem_nil,or_false] at hp
 rcases hp with rfl|rfl|rfl<;>simp [e]
theorem en_a {l:List OpD}{Stop:Goroutine→World→Prop}{w:World}{vl:Value}{p kd A B:Int}{a:Act}(hA:Lvs 67 [(0,vl),(1,.int .i64 p),(2,.agg #[.int .i64 kd,.int .i64 A,.int .i64 B])] a)(k:List Item)(cs:List Frame)
  (hn:∀ a' w',Grown w w'→w'.heap[w.heap.size]?=some (.cells #[.int .i64 kd,.int .i64 A,.int .i64 B] 38 (0,0))→w'.heap[w.heap.size+1]?=some (.cells #[.int .i64 0,.int .i64 0,.int .i64 0,.int .i64 0,.int .i64 0] 70 (0,0))→Lvs 67 [(0,vl),(1,.int .i64 p),(5,.pointer (some ⟨w.heap.size,0,none⟩)),(6,.pointer (some ⟨(w.heap.size+1),0,none⟩)),(7,.bool false)] a'→∀ d,Stop (G (Frame.enter Tryd.prog 17 #[vl,.int .i64 p,.agg #[.int .i64 kd,.int .i64 A,.int .i64 B]] .normal) ((base 23).at a' (.inRegion (enOps 1) [3,4] :: .code enRest::k)::cs)) (w'.at d)) :
  Liv Tryd.prog true true (sfO l) Stop (G ((base 23).at a (.code enBody::k)) cs) w:=by
 unfold enBody
 refine Br.liv_seq ?_
 refine lg_region (ops:=enOps 0) (n:=0) (il:=[0,1,2]) (by kernel_rfl) ?_
 obtain ⟨o',ho,hop,hd,hg⟩:∃ o',(enOps 0)[0]?=some o'∧o'.op=.box 38 (.tmp 2)∧o'.dst=some 5∧o'.guard=none:=⟨_,rfl,rfl,rfl,rfl⟩
 have e2:=hA.get (t:=2) rfl
 refine lw_made (ob:=.cells #[.int .i64 kd,.int .i64 A,.int .i64 B] 38 (0,0)) (v:=.pointer (some ⟨w.heap.size,0,none⟩)) hA ho hg (by decide) hd (by decide) (fun d=>by unfold execOp;simp only [hop,e2];go_simp;try rfl) (fun d=>by unfold execOp;simp only [hop,e2];simp [go_sem]) trivial (fun a hA=>?_)
 clear ho hop hd hg e2
 have hG1:=grown_alloc (w:=w) trivial (ob:=.cells #[.int .i64 kd,.int .i64 A,.int .i64 B] 38 (0,0)) trivial
 have hX1:=heap_alloc_new w (.cells #[.int .i64 kd,.int .i64 A,.int .i64 B] 38 (0,0))
 have hs1:(w.alloc (.cells #[.int .i64 kd,.int .i64 A,.int .i64 B] 38 (0,0))).heap.size=w.heap.size+1:=by simp
 generalize w.alloc (.cells #[.int .i64 kd,.int .i64 A,.int .i64 B] 38 (0,0))=w1 at *
 obtain ⟨o',ho,hop,hd,hg⟩:∃ o',(enOps 0)[1]?=some o'∧o'.op=.alloc 70∧o'.dst=some 6∧o'.guard=none:=⟨_,rfl,rfl,rfl,rfl⟩
 refine lw_made (ob:=.cells #[.int .i64 0,.int .i64 0,.int .i64 0,.int .i64 0,.int .i64 0] 70 (0,0)) (v:=.pointer (some ⟨w1.heap.size,0,none⟩)) hA ho hg (by decide) hd (by decide) (fun d=>by unfold execOp;simp only [hop];go_simp;try rfl) (fun d=>by unfold execOp;simp only [hop];simp [go_sem]) trivial (fun a hA=>?_)
 clear ho hop hd hg
 have hG2:=grown_alloc (w:=w1) trivial (ob:=.cells #[.int .i64 0,.int .i64 0,.int .i64 0,.int .i64 0,.int .i64 0] 70 (0,0)) trivial
 have hX2:=heap_alloc_new w1 (.cells #[.int .i64 0,.int .i64 0,.int .i64 0,.int .i64 0,.int .i64 0] 70 (0,0))
 have hs2:(w1.alloc (.cells #[.int .i64 0,.int .i64 0,.int .i64 0,.int .i64 0,.int .i64 0] 70 (0,0))).heap.size=w1.heap.size+1:=by simp
 generalize w1.alloc (.cells #[.int .i64 0,.int .i64 0,.int .i64 0,.int .i64 0,.int .i64 0] 70 (0,0))=w2 at *
 refine wt (v:=.bool false) hA rfl rfl rfl rfl rfl rfl (fun a hA=>?_)
 rw [hs1] at hX2 hA
 replace hX1:w2.heap[w.heap.size]?=some (.cells #[.int .i64 kd,.int .i64 A,.int .i64 B] 38 (0,0)):=(hG2.old _ (by omega)).trans hX1
 refine Br.liv_region_end ?_
 replace hA:Lvs 67 [(0,vl),(1,.int .i64 p),(5,.pointer (some ⟨w.heap.size,0,none⟩)),(6,.pointer (some ⟨(w.heap.size+1),0,none⟩)),(7,.bool false)] a:=hA.cut ⟨rfl,rfl,rfl,rfl,rfl,trivial⟩
 refine Br.liv_seq ?_
 have cell:∀ j x d,([.int .i64 kd,.int .i64 A,.int .i64 B]:List Value)[j]?=some x→(w2.at d).cell? ⟨w.heap.size,j,none⟩=some x:=fun j x d hx=>by
  show w2.cell? _=_
  simp only [World.cell?,hX1]
  simpa using hx
 refine lg_region (ops:=enOps 1) (n:=1) (il:=[0,1,2,3,4]) (by kernel_rfl) ?_
 refine wm (v:=vl) hA rfl rfl rfl (hA.get rfl) rfl rfl (fun a hA=>?_)
 refine wm (v:=.int .i64 p) hA rfl rfl rfl (hA.get rfl) rfl rfl (fun a hA=>?_)
 refine wop (v:=.agg #[.int .i64 kd,.int .i64 A,.int .i64 B]) (op:=.load 38 (.tmp 5)) hA rfl rfl rfl rfl rfl rfl (fun o hop d=>by have z0:=cell 0 _ d rfl;have z1:=cell 1 _ d rfl;have z2:=cell 2 _ d rfl;unfold execOp;simp only [hop,hA.get (t:=5) rfl];go_simp;try rfl) (fun a hA=>?_)
 have e14:=hA.get (t:=14) rfl
 have e15:=hA.get (t:=15) rfl
 have e16:=hA.get (t:=16) rfl
 exact lv_enter rfl rfl (by decide) rfl Tryd.func17 rfl rfl (by simp only [List.map_toArray,List.map_cons,List.map_nil,e14,e15,e16]) (hn a w2 (hG1.trans hG2) hX1 hX2 (hA.cut ⟨rfl,rfl,rfl,rfl,rfl,trivial⟩))
theorem en_b {l:List OpD}{Stop:Goroutine→World→Prop}{w:World}{vl b5 b6:Value}{p:Int}{a:Act}(hA:Lvs 67 [(17,.int .i64 0),(0,vl),(1,.int .i64 p),(5,b5),(6,b6),(7,.bool false)] a)(k:List Item)(cs:List Frame)
  (hn:∀ a',Lvs 67 [(0,vl),(1,.int .i64 p),(5,b5),(6,b6),(7,.bool false),(9,.int .i64 0)] a'→Liv Tryd.prog true true (sfO l) Stop (G ((base 23).at a' (.code enLoop::.inLoop enLoop::.inBlock 0::.code (.seq (rn 15) .ret)::k)) cs) w) :
  Liv Tryd.prog true true (sfO l) Stop (G ((base 23).at a (.inRegion (enOps 1) [4] :: .code enRest::k)) cs) w:=by
 refine wt (v:=.int .i64 0) hA rfl rfl rfl (hA.get rfl) rfl rfl (fun a hA=>?_)
 refine Br.liv_region_end ?_
 replace hA:Lvs 67 [(8,.int .i64 0),(0,vl),(1,.int .i64 p),(5,b5),(6,b6),(7,.bool false)] a:=hA.cut ⟨rfl,rfl,rfl,rfl,rfl,rfl,trivial⟩
 unfold enRest
 refine Br.liv_seq ?_
 refine Br.liv_seq ?_
 refine lg_region (ops:=enOps 2) (n:=2) (il:=[0,1]) (by kernel_rfl) ?_
 refine wm (v:=.int .i64 0) hA rfl rfl rfl (hA.get rfl) rfl rfl (fun a hA=>?_)
 refine wop (v:=.bool false) (op:=.binOp .neq 26 (.tmp 18) (.const (.int .i64 0)) 26) hA rfl rfl rfl (by kernel_rfl) rfl rfl (fun o hop d=>by unfold execOp;simp only [hop,hA.get (t:=18) rfl];go_simp) (fun a hA=>?_)
 refine Br.liv_region_end ?_
 replace hA:Lvs 67 [(19,.bool false),(0,vl),(1,.int .i64 p),(5,b5),(6,b6),(7,.bool false)] a:=hA.cut ⟨rfl,rfl,rfl,rfl,rfl,rfl,trivial⟩
 refine Br.liv_cond (t:=false) (hA.get rfl) ?_
 refine Br.liv_skip ?_
 refine Br.liv_seq ?_
 refine Br.liv_seq ?_
 refine lg_region (ops:=enOps 4) (n:=4) (il:=[0]) (by kernel_rfl) ?_
 refine wt (v:=.int .i64 0) hA rfl rfl rfl rfl rfl rfl (fun a hA=>?_)
 refine Br.liv_region_end ?_
 refine Br.liv_block ?_
 refine Br.liv_loop ?_
 exact hn a (hA.cut ⟨rfl,rfl,rfl,rfl,rfl,rfl,trivial⟩)
theorem en_c {l:List OpD}{Stop:Goroutine→World→Prop}{w:World}{vl b5 b6:Value}{p:Int}{i:Nat}(hi:i<100){a:Act}(hA:Lvs 67 [(0,vl),(1,.int .i64 p),(5,b5),(6,b6),(7,.bool false),(9,.int .i64 i)] a)(k:List Item)(cs:List Frame)
  (hn:∀ a',Lvs 67 [(0,vl),(1,.int .i64 p),(5,b5),(6,b6),(7,.bool false),(9,.int .i64 i)] a'→∀ d,Stop (G (Frame.enter Tryd.prog 18 #[vl,.int .i64 p] .normal) ((base 23).at a' (.inRegion (enOps 7) [2,3,4,5,6,7] :: .code enTurn::.inBlock 1::.code (rn 6)::.inLoop enLoop::.inBlock 0::.code (.seq (rn 15) .ret)::k)::cs)) (w.at d)) :
  Liv Tryd.prog true true (sfO l) Stop (G ((base 23).at a (.code enLoop::.inLoop enLoop::.inBlock 0::.code (.seq (rn 15) .ret)::k)) cs) w:=by
 have i1:(i:Int)<100:=by omega
 unfold enLoop
 refine Br.liv_seq ?_
 refine Br.liv_seq ?_
 refine lg_region (ops:=enOps 5) (n:=5) (il:=[0,1]) (by kernel_rfl) ?_
 refine wm (v:=.int .i64 i) hA rfl rfl rfl (hA.get rfl) rfl rfl (fun a hA=>?_)
 refine wop (v:=.bool true) (op:=.binOp .lss 3 (.tmp 21) (.const (.int .i64 100)) 3) hA rfl rfl rfl rfl rfl rfl (fun o hop d=>by unfold execOp;simp only [hop,hA.get (t:=21) rfl];go_simp) (fun a hA=>?_)
 refine Br.liv_region_end ?_
 replace hA:Lvs 67 [(22,.bool true),(0,vl),(1,.int .i64 p),(5,b5),(6,b6),(7,.bool false),(9,.int .i64 i)] a:=hA.cut ⟨rfl,rfl,rfl,rfl,rfl,rfl,rfl,trivial⟩
 refine Br.liv_cond (t:=true) (hA.get rfl) ?_
 refine Br.liv_skip ?_
 refine Br.liv_seq ?_
 refine Br.liv_block ?_
 refine Br.liv_seq ?_
 refine lg_region (ops:=enOps 7) (n:=7) (il:=[0,1,2,3,4,5,6,7]) (by kernel_rfl) ?_
 refine wm (v:=vl) hA rfl rfl rfl (hA.get rfl) rfl rfl (fun a hA=>?_)
 refine wm (v:=.int .i64 p) hA rfl rfl rfl (hA.get rfl) rfl rfl (fun a hA=>?_)
 have e26:=hA.get (t:=26) rfl
 have e27:=hA.get (t:=27) rfl
 exact lv_enter rfl rfl (by decide) rfl Tryd.func18 rfl rfl (by simp only [List.map_toArray,List.map_cons,List.map_nil,e26,e27]) (hn a (hA.cut ⟨rfl,rfl,rfl,rfl,rfl,rfl,trivial⟩))
theorem en_more {l:List OpD}{Stop:Goroutine→World→Prop}{w:World}{vl b5 b6:Value}{p:Int}{i:Nat}(hi:i<100){a:Act}(hA:Lvs 67 [(28,.tuple #[.bool false,.int .i64 0]),(0,vl),(1,.int .i64 p),(5,b5),(6,b6),(7,.bool false),(9,.int .i64 i)] a)(k:List Item)(cs:List Frame)
  (hn:∀ a',Lvs 67 [(0,vl),(1,.int .i64 p),(5,b5),(6,b6),(7,.bool false),(9,.int .i64 (((i+1:Nat):Int)))] a'→Liv Tryd.prog true true (sfO l) Stop (G ((base 23).at a' (.code enLoop::.inLoop enLoop::.inBlock 0::.code (.seq (rn 15) .ret)::k)) cs) w) :
  Liv Tryd.prog true true (sfO l) Stop (G ((base 23).at a (.inRegion (enOps 7) [3,4,5,6,7] :: .code enTurn::.inBlock 1::.code (rn 6)::.inLoop enLoop::.inBlock 0::.code (.seq (rn 15) .ret)::k)) cs) w:=by
 refine wm (v:=.tuple #[.bool false,.int .i64 0]) hA rfl rfl rfl (hA.get rfl) rfl rfl (fun a hA=>?_)
 refine lw_val (v:=.bool false) hA rfl (wanted_none rfl) (by decide) (by kernel_rfl) rfl (by decide) (fun d=>run_extract rfl (hA.get rfl) rfl) (fun a hA=>?_)
 refine lw_val (v:=.int .i64 0) hA rfl (wanted_none rfl) (by decide) (by kernel_rfl) rfl (by decide) (fun d=>run_extract rfl (hA.get rfl) rfl) (fun a hA=>?_)
 refine wt (v:=.bool false) hA rfl rfl rfl (hA.get rfl) rfl rfl (fun a hA=>?_)
 refine wt (v:=.int .i64 0) hA rfl rfl rfl (hA.get rfl) rfl rfl (fun a hA=>?_)
 refine Br.liv_region_end ?_
 replace hA:Lvs 67 [(10,.bool false),(11,.int .i64 0),(0,vl),(1,.int .i64 p),(5,b5),(6,b6),(7,.bool false),(9,.int .i64 i)] a:=hA.cut ⟨rfl,rfl,rfl,rfl,rfl,rfl,rfl,rfl,trivial⟩
 unfold enTurn
 refine Br.liv_seq ?_
 refine Br.liv_seq ?_
 refine lg_region (ops:=enOps 8) (n:=8) (il:=[0,1]) (by kernel_rfl) ?_
 refine wm (v:=.int .i64 0) hA rfl rfl rfl (hA.get rfl) rfl rfl (fun a hA=>?_)
 refine wop (v:=.bool false) (op:=.binOp .neq 26 (.tmp 31) (.const (.int .i64 0)) 26) hA rfl rfl rfl (by kernel_rfl) rfl rfl (fun o hop d=>by unfold execOp;simp only [hop,hA.get (t:=31) rfl];go_simp) (fun a hA=>?_)
 refine Br.liv_region_end ?_
 replace hA:Lvs 67 [(32,.bool false),(10,.bool false),(0,vl),(1,.int .i64 p),(5,b5),(6,b6),(7,.bool false),(9,.int .i64 i)] a:=hA.cut ⟨rfl,rfl,rfl,rfl,rfl,rfl,rfl,rfl,trivial⟩
 refine Br.liv_cond (t:=false) (hA.get rfl) ?_
 refine Br.liv_skip ?_
 refine Br.liv_seq ?_
 refine lg_region (ops:=enOps 10) (n:=10) (il:=[0]) (by kernel_rfl) ?_
 refine wm (v:=.bool false) hA rfl rfl rfl (hA.get rfl) rfl rfl (fun a hA=>?_)
 refine Br.liv_region_end ?_
 replace hA:Lvs 67 [(34,.bool false),(0,vl),(1,.int .i64 p),(5,b5),(6,b6),(7,.bool false),(9,.int .i64 i)] a:=hA.cut ⟨rfl,rfl,rfl,rfl,rfl,rfl,rfl,trivial⟩
 refine Br.liv_cond (t:=false) (hA.get rfl) ?_
 refine Br.liv_skip ?_
 refine Br.liv_inBlock ?_
 have i1:(i:Int)<100:=by omega
 refine lg_region (ops:=enOps 6) (n:=6) (il:=[0,1,2]) (by kernel_rfl) ?_
 refine wm (v:=.int .i64 i) hA rfl rfl rfl (hA.get rfl) rfl rfl (fun a hA=>?_)
 refine wop (v:=.int .i64 (((i+1:Nat):Int))) (op:=.binOp .add 3 (.tmp 23) (.const (.int .i64 1)) 3) hA rfl rfl rfl rfl rfl rfl (fun o hop d=>by have z0:IntKind.i64.wrap ((i:Int)+1)=((i+1:Nat):Int):=(by rw [IntKind.wrap_i64];omega);unfold execOp;simp only [hop,hA.get (t:=23) rfl];go_simp) (fun a hA=>?_)
 refine wt (v:=.int .i64 (((i+1:Nat):Int))) hA rfl rfl rfl (hA.get rfl) rfl rfl (fun a hA=>?_)
 refine Br.liv_region_end ?_
 refine Br.liv_inLoop ?_
 exact hn a (hA.cut ⟨rfl,rfl,rfl,rfl,rfl,rfl,trivial⟩)
theorem en_over {l:List OpD}{Stop:Goroutine→World→Prop}{w:World}{vl b5 b6:Value}{p:Int}{i:Nat}(hi:i<100){a:Act}(hA:Lvs 67 [(28,.tuple #[.bool true,.int .i64 0]),(0,vl),(1,.int .i64 p),(5,b5),(6,b6),(7,.bool false),(9,.int .i64 i)] a)(k:List Item)(cs:List Frame)
  (hn:∀ a',Lvs 67 [(0,vl),(1,.int .i64 p),(5,b5),(6,b6),(7,.bool false)] a'→Liv Tryd.prog true true (sfO l) Stop (G ((base 23).at a' (.code enOver::.inBlock 1::.code (rn 6)::.inLoop enLoop::.inBlock 0::.code (.seq (rn 15) .ret)::k)) cs) w) :
  Liv Tryd.prog true true (sfO l) Stop (G ((base 23).at a (.inRegion (enOps 7) [3,4,5,6,7] :: .code enTurn::.inBlock 1::.code (rn 6)::.inLoop enLoop::.inBlock 0::.code (.seq (rn 15) .ret)::k)) cs) w:=by
 refine wm (v:=.tuple #[.bool true,.int .i64 0]) hA rfl rfl rfl (hA.get rfl) rfl rfl (fun a hA=>?_)
 refine lw_val (v:=.bool true) hA rfl (wanted_none rfl) (by decide) (by kernel_rfl) rfl (by decide) (fun d=>run_extract rfl (hA.get rfl) rfl) (fun a hA=>?_)
 refine lw_val (v:=.int .i64 0) hA rfl (wanted_none rfl) (by decide) (by kernel_rfl) rfl (by decide) (fun d=>run_extract rfl (hA.get rfl) rfl) (fun a hA=>?_)
 refine wt (v:=.bool true) hA rfl rfl rfl (hA.get rfl) rfl rfl (fun a hA=>?_)
 refine wt (v:=.int .i64 0) hA rfl rfl rfl (hA.get rfl) rfl rfl (fun a hA=>?_)
 refine Br.liv_region_end ?_
 replace hA:Lvs 67 [(10,.bool true),(11,.int .i64 0),(0,vl),(1,.int .i64 p),(5,b5),(6,b6),(7,.bool false),(9,.int .i64 i)] a:=hA.cut ⟨rfl,rfl,rfl,rfl,rfl,rfl,rfl,rfl,trivial⟩
 unfold enTurn
 refine Br.liv_seq ?_
 refine Br.liv_seq ?_
 refine lg_region (ops:=enOps 8) (n:=8) (il:=[0,1]) (by kernel_rfl) ?_
 refine wm (v:=.int .i64 0) hA rfl rfl rfl (hA.get rfl) rfl rfl (fun a hA=>?_)
 refine wop (v:=.bool false) (op:=.binOp .neq 26 (.tmp 31) (.const (.int .i64 0)) 26) hA rfl rfl rfl (by kernel_rfl) rfl rfl (fun o hop d=>by unfold execOp;simp only [hop,hA.get (t:=31) rfl];go_simp) (fun a hA=>?_)
 refine Br.liv_region_end ?_
 replace hA:Lvs 67 [(32,.bool false),(10,.bool true),(0,vl),(1,.int .i64 p),(5,b5),(6,b6),(7,.bool false),(9,.int .i64 i)] a:=hA.cut ⟨rfl,rfl,rfl,rfl,rfl,rfl,rfl,rfl,trivial⟩
 refine Br.liv_cond (t:=false) (hA.get rfl) ?_
 refine Br.liv_skip ?_
 refine Br.liv_seq ?_
 refine lg_region (ops:=enOps 10) (n:=10) (il:=[0]) (by kernel_rfl) ?_
 refine wm (v:=.bool true) hA rfl rfl rfl (hA.get rfl) rfl rfl (fun a hA=>?_)
 refine Br.liv_region_end ?_
 replace hA:Lvs 67 [(34,.bool true),(0,vl),(1,.int .i64 p),(5,b5),(6,b6),(7,.bool false),(9,.int .i64 i)] a:=hA.cut ⟨rfl,rfl,rfl,rfl,rfl,rfl,rfl,trivial⟩
 refine Br.liv_cond (t:=true) (hA.get rfl) ?_
 exact hn a (hA.cut ⟨rfl,rfl,rfl,rfl,rfl,trivial⟩)
theorem en_done {l:List OpD}{Stop:Goroutine→World→Prop}{w:World}(hft:Fit (sfO l) w){vl:Value}{p:Int}{bx by_ m:Nat}{kd A B er va:Int}{a:Act}(hA:Lvs 67 [(0,vl),(1,.int .i64 p),(5,.pointer (some ⟨bx,0,none⟩)),(6,.pointer (some ⟨by_,0,none⟩)),(7,.bool false)] a)(fr:Frame)(cs:List Frame)(k:List Item)
  (hm:m<9000000000000000)(hsz:m*5+5≤9223372036854775807)
  (hdone:∀ fr cs d,Must Tryd.prog true (DL true (sfO l)) (fun g w'=>∃ x,g=G (fr.finish x) cs∧Grown w w'∧x=.tuple #[.slice (some ⟨w.heap.size,0,none⟩) (m+1:Nat) (m+1:Nat),.int .i64 0]∧∀ j,j<5→w'.cell? ⟨w.heap.size,m*5+j,none⟩=([.int .i64 kd,.int .i64 A,.int .i64 B,.int .i64 er,.int .i64 va]:List Value)[j]?) (G (Frame.enter Tryd.prog 21 #[vl,.int .i64 p] .normal) (fr::cs)) (w.at d))
  (hX:w.heap[bx]?=some (.cells #[.int .i64 kd,.int .i64 A,.int .i64 B] 38 (0,0)))(hY:w.heap[by_]?=some (.cells #[.int .i64 0,.int .i64 0,.int .i64 0,.int .i64 0,.int .i64 0] 70 (0,0)))(hz:sfO l by_=0)
  (hn:∀ w',w.heap.size≤w'.heap.size→(∀ j,j<w.heap.size→j≠by_→w'.heap[j]?=w.heap[j]?)→Liv Tryd.prog true true (sfO l) Stop (G (fr.finish (.tuple #[.agg #[.int .i64 kd,.int .i64 A,.int .i64 B,.int .i64 er,.int .i64 va],.bool true])) cs) w') :
  Liv Tryd.prog true true (sfO l) Stop (G ((base 23).at a (.code enOver::k)) (fr::cs)) w:=by
 unfold enOver
 refine Br.liv_seq ?_
 refine lg_region (ops:=enOps 11) (n:=11) (il:=[0,1,2,3,4,5,6,7]) (by kernel_rfl) ?_
 refine wm (v:=vl) hA rfl rfl rfl (hA.get rfl) rfl rfl (fun a hA=>?_)
 refine wm (v:=.int .i64 p) hA rfl rfl rfl (hA.get rfl) rfl rfl (fun a hA=>?_)
 have e36:=hA.get (t:=36) rfl
 have e37:=hA.get (t:=37) rfl
 refine lw_call (vs:=#[vl,.int .i64 p]) hA rfl rfl (by decide) rfl rfl (by decide) Tryd.func21 rfl rfl (by simp only [List.map_toArray,List.map_cons,List.map_nil,e36,e37]) (fun fr cs d=>hdone fr cs d) (fun u w1 hR a hA=>?_)
 obtain ⟨hG,rfl,hc⟩:=hR
 clear e36 e37
 replace hA:Lvs 67 [(38,.tuple #[.slice (some ⟨w.heap.size,0,none⟩) ((m+1:Nat)) ((m+1:Nat)),.int .i64 0]),(37,.int .i64 p),(36,vl),(0,vl),(1,.int .i64 p),(5,.pointer (some ⟨bx,0,none⟩)),(6,.pointer (some ⟨by_,0,none⟩)),(7,.bool false)] a:=hA
 refine wm (v:=.tuple #[.slice (some ⟨w.heap.size,0,none⟩) ((m+1:Nat)) ((m+1:Nat)),.int .i64 0]) hA rfl rfl rfl (hA.get rfl) rfl rfl (fun a hA=>?_)
 refine lw_val (v:=.slice (some ⟨w.heap.size,0,none⟩) ((m+1:Nat)) ((m+1:Nat))) hA rfl (wanted_none rfl) (by decide) (by kernel_rfl) rfl (by decide) (fun d=>run_extract rfl (hA.get rfl) rfl) (fun a hA=>?_)
 refine lw_val (v:=.int .i64 0) hA rfl (wanted_none rfl) (by decide) (by kernel_rfl) rfl (by decide) (fun d=>run_extract rfl (hA.get rfl) rfl) (fun a hA=>?_)
 refine wt (v:=.slice (some ⟨w.heap.size,0,none⟩) ((m+1:Nat)) ((m+1:Nat))) hA rfl rfl rfl (hA.get rfl) rfl rfl (fun a hA=>?_)
 refine wt (v:=.int .i64 0) hA rfl rfl rfl (hA.get rfl) rfl rfl (fun a hA=>?_)
 refine Br.liv_region_end ?_
 replace hA:Lvs 67 [(12,.slice (some ⟨w.heap.size,0,none⟩) ((m+1:Nat)) ((m+1:Nat))),(13,.int .i64 0),(0,vl),(1,.int .i64 p),(5,.pointer (some ⟨bx,0,none⟩)),(6,.pointer (some ⟨by_,0,none⟩)),(7,.bool false)] a:=hA.cut ⟨rfl,rfl,rfl,rfl,rfl,rfl,rfl,trivial⟩
 have ltx:=(Array.getElem?_eq_some_iff.1 hX).1
 have lty:=(Array.getElem?_eq_some_iff.1 hY).1
 have hX1:=(hG.old _ ltx).trans hX
 have hY1:=(hG.old _ lty).trans hY
 have cx:∀ j x d,([.int .i64 kd,.int .i64 A,.int .i64 B]:List Value)[j]?=some x→(w1.at d).cell? ⟨bx,j,none⟩=some x:=fun j x d hx=>by
  show w1.cell? _=_
  simp only [World.cell?,hX1]
  simpa using hx
 have cd:∀ j x d,j<5→([.int .i64 kd,.int .i64 A,.int .i64 B,.int .i64 er,.int .i64 va]:List Value)[j]?=some x→(w1.at d).cell? ⟨w.heap.size,m*5+j,none⟩=some x:=fun j x d hj hx=>(hc j hj).trans hx
 have n1:((m+1:Nat):Int) - 1=(m:Int):=by omega
 have n2:((m+1:Nat):Int)≠0:=by omega
 have n3:(0:Int)≤(m:Int):=by omega
 have n4:(m:Int)<((m+1:Nat):Int):=by omega
 refine Br.liv_seq ?_
 refine Br.liv_seq ?_
 refine lg_draw (ops:=enOps 12) (V:=fun i=>([.int .i64 0,.bool false,.bool false,.slice (some ⟨w.heap.size,0,none⟩) ((m+1:Nat)) ((m+1:Nat)),.int .i64 ((m+1:Nat)),.bool false,.bool false,.bool false,.slice (some ⟨w.heap.size,0,none⟩) ((m+1:Nat)) ((m+1:Nat)),.slice (some ⟨w.heap.size,0,none⟩) ((m+1:Nat)) ((m+1:Nat)),.int .i64 ((m+1:Nat)),.int .i64 ((m:Int)),.pointer (some ⟨w.heap.size,m*5,none⟩),.pointer (some ⟨w.heap.size,m*5,none⟩),.agg #[.int .i64 kd,.int .i64 A,.int .i64 B],.agg #[.int .i64 kd,.int .i64 A,.int .i64 B],.bool false,.bool false]:List Value).getD i undef) (by decide) hA.defers (by kernel_rfl) (by kernel_rfl) (fun i a' listed hAg hcl hr=>?_) (fun a' listed hAg hall=>?_)
 ·have hlt:i<18:=Br.ready_lt hr
  have hq:i=0∨i=1∨i=2∨i=3∨i=4∨i=5∨i=6∨i=7∨i=8∨i=9∨i=10∨i=11∨i=12∨i=13∨i=14∨i=15∨i=16∨i=17:=by omega
  clear hlt
  rcases hq with rfl|rfl|rfl|rfl|rfl|rfl|rfl|rfl|rfl|rfl|rfl|rfl|rfl|rfl|rfl|rfl|rfl|rfl
  ·have e13:=agr_base hA hAg (t:=13) (by kernel_rfl) rfl
   exact ⟨_,rfl,.inr ⟨(wanted_none rfl),by kernel_rfl,fun d=>run_move rfl e13⟩⟩
  ·have e41:=agr_own hA hAg hr rfl (j:=0) (by kernel_rfl) rfl (t:=41) rfl (by decide) rfl
   obtain ⟨o,ho,hop,hg⟩:∃ o,(enOps 12)[1]?=some o∧o.op=.binOp .neq 26 (.tmp 41) (.const (.int .i64 0)) 26∧o.guard=none:=⟨_,rfl,rfl,rfl⟩
   exact ⟨o,ho,.inr ⟨wanted_none hg,by rw [hop];first|rfl|kernel_rfl,fun d=>by show _=Result.ok (Next.value (.bool false)) _;unfold execOp;simp only [hop,e41];go_simp⟩⟩
  ·have e42:=agr_own hA hAg hr rfl (j:=1) (by kernel_rfl) rfl (t:=42) rfl (by decide) rfl
   exact ⟨_,rfl,.inr ⟨(wanted_none rfl),by kernel_rfl,fun d=>run_move rfl e42⟩⟩
  ·have e12:=agr_base hA hAg (t:=12) (by kernel_rfl) rfl
   exact ⟨_,rfl,.inr ⟨((agr_wanted hA hAg hr rfl (j:=2) rfl (by kernel_rfl) rfl rfl (by decide) (x:=false) rfl).trans rfl),by kernel_rfl,fun d=>run_move rfl e12⟩⟩
  ·have e44:=agr_own hA hAg hr rfl (j:=3) (by kernel_rfl) rfl (t:=44) rfl (by decide) rfl
   exact ⟨_,rfl,.inr ⟨((agr_wanted hA hAg hr rfl (j:=2) rfl (by kernel_rfl) rfl rfl (by decide) (x:=false) rfl).trans rfl),by kernel_rfl,fun d=>run_len rfl Tryd.underlying65 e44⟩⟩
  ·have e45:=agr_own hA hAg hr rfl (j:=4) (by kernel_rfl) rfl (t:=45) rfl (by decide) rfl
   obtain ⟨o,ho,hop,hg,haf⟩:∃ o,(enOps 12)[5]?=some o∧o.op=.binOp .eql 3 (.tmp 45) (.const (.int .i64 0)) 3∧o.guard=some (2,false)∧(o.after.any fun e=>Region.binds .any e && e.on == 2)=true:=⟨_,rfl,rfl,rfl,by kernel_rfl⟩
   exact ⟨o,ho,.inr ⟨(agr_wanted hA hAg hr ho (j:=2) hg haf rfl rfl (by decide) (x:=false) rfl).trans rfl,by rw [hop];first|rfl|kernel_rfl,fun d=>by show _=Result.ok (Next.value (.bool false)) _;unfold execOp;simp only [hop,e45];go_simp;try omega⟩⟩
  ·have e43:=agr_own hA hAg hr rfl (j:=2) (by kernel_rfl) rfl (t:=43) rfl (by decide) rfl
   have e46:=agr_own hA hAg hr rfl (j:=5) (by kernel_rfl) rfl (t:=46) rfl (by decide) rfl
   obtain ⟨o,ho,hop,hg⟩:∃ o,(enOps 12)[6]?=some o∧o.op=.pick (.tmp 43) (.const (.bool true)) (.tmp 46)∧o.guard=none:=⟨_,rfl,rfl,rfl⟩
   exact ⟨o,ho,.inr ⟨wanted_none hg,by rw [hop];first|rfl|kernel_rfl,fun d=>by show _=Result.ok (Next.value (.bool false)) _;unfold execOp;simp only [hop,e43,e46];go_simp⟩⟩
  ·have e47:=agr_own hA hAg hr rfl (j:=6) (by kernel_rfl) rfl (t:=47) rfl (by decide) rfl
   exact ⟨_,rfl,.inr ⟨(wanted_none rfl),by kernel_rfl,fun d=>run_move rfl e47⟩⟩
  ·have e12:=agr_base hA hAg (t:=12) (by kernel_rfl) rfl
   exact ⟨_,rfl,.inr ⟨((agr_wanted hA hAg hr rfl (j:=7) rfl (by kernel_rfl) rfl rfl (by decide) (x:=false) rfl).trans rfl),by kernel_rfl,fun d=>run_move rfl e12⟩⟩
  ·have e12:=agr_base hA hAg (t:=12) (by kernel_rfl) rfl
   exact ⟨_,rfl,.inr ⟨((agr_wanted hA hAg hr rfl (j:=7) rfl (by kernel_rfl) rfl rfl (by decide) (x:=false) rfl).trans rfl),by kernel_rfl,fun d=>run_move rfl e12⟩⟩
  ·have e50:=agr_own hA hAg hr rfl (j:=9) (by kernel_rfl) rfl (t:=50) rfl (by decide) rfl
   exact ⟨_,rfl,.inr ⟨((agr_wanted hA hAg hr rfl (j:=7) rfl (by kernel_rfl) rfl rfl (by decide) (x:=false) rfl).trans rfl),by kernel_rfl,fun d=>run_len rfl Tryd.underlying65 e50⟩⟩
  ·have e51:=agr_own hA hAg hr rfl (j:=10) (by kernel_rfl) rfl (t:=51) rfl (by decide) rfl
   obtain ⟨o,ho,hop,hg,haf⟩:∃ o,(enOps 12)[11]?=some o∧o.op=.binOp .sub 3 (.tmp 51) (.const (.int .i64 1)) 3∧o.guard=some (7,false)∧(o.after.any fun e=>Region.binds .any e && e.on == 7)=true:=⟨_,rfl,rfl,rfl,by kernel_rfl⟩
   exact ⟨o,ho,.inr ⟨(agr_wanted hA hAg hr ho (j:=7) hg haf rfl rfl (by decide) (x:=false) rfl).trans rfl,by rw [hop];first|rfl|kernel_rfl,fun d=>by show _=Result.ok (Next.value (.int .i64 ((m:Int)))) _;have z9:IntKind.i64.wrap (m:Int)=(m:Int):=(by rw [IntKind.wrap_i64];omega);unfold execOp;simp only [hop,e51];go_simp⟩⟩
  ·have e49:=agr_own hA hAg hr rfl (j:=8) (by kernel_rfl) rfl (t:=49) rfl (by decide) rfl
   have e52:=agr_own hA hAg hr rfl (j:=11) (by kernel_rfl) rfl (t:=52) rfl (by decide) rfl
   obtain ⟨o,ho,hop,hg,haf⟩:∃ o,(enOps 12)[12]?=some o∧o.op=.indexAddr 65 (.tmp 49) (.tmp 52)∧o.guard=some (7,false)∧(o.after.any fun e=>Region.binds .any e && e.on == 7)=true:=⟨_,rfl,rfl,rfl,by kernel_rfl⟩
   exact ⟨o,ho,.inr ⟨(agr_wanted hA hAg hr ho (j:=7) hg haf rfl rfl (by decide) (x:=false) rfl).trans rfl,by rw [hop];first|rfl|kernel_rfl,fun d=>by show _=Result.ok (Next.value (.pointer (some ⟨w.heap.size,m*5,none⟩))) _;unfold execOp;simp only [hop,e49,e52];go_simp;try (intro h;omega)⟩⟩
  ·have e53:=agr_own hA hAg hr rfl (j:=12) (by kernel_rfl) rfl (t:=53) rfl (by decide) rfl
   obtain ⟨o,ho,hop,hg,haf⟩:∃ o,(enOps 12)[13]?=some o∧o.op=.fieldAddr 70 (.tmp 53) 0∧o.guard=some (7,false)∧(o.after.any fun e=>Region.binds .any e && e.on == 7)=true:=⟨_,rfl,rfl,rfl,by kernel_rfl⟩
   exact ⟨o,ho,.inr ⟨(agr_wanted hA hAg hr ho (j:=7) hg haf rfl rfl (by decide) (x:=false) rfl).trans rfl,by rw [hop];first|rfl|kernel_rfl,fun d=>by show _=Result.ok (Next.value (.pointer (some ⟨w.heap.size,m*5,none⟩))) _;unfold execOp;simp only [hop,e53];go_simp;try (intro h;omega)⟩⟩
  ·have e54:=agr_own hA hAg hr rfl (j:=13) (by kernel_rfl) rfl (t:=54) rfl (by decide) rfl
   obtain ⟨o,ho,hop,hg,haf⟩:∃ o,(enOps 12)[14]?=some o∧o.op=.load 38 (.tmp 54)∧o.guard=some (7,false)∧(o.after.any fun e=>Region.binds .any e && e.on == 7)=true:=⟨_,rfl,rfl,rfl,by kernel_rfl⟩
   exact ⟨o,ho,.inr ⟨(agr_wanted hA hAg hr ho (j:=7) hg haf rfl rfl (by decide) (x:=false) rfl).trans rfl,by rw [hop];first|rfl|kernel_rfl,fun d=>by show _=Result.ok (Next.value (.agg #[.int .i64 kd,.int .i64 A,.int .i64 B])) _;have z0:w1.cell? ⟨w.heap.size,m*5,none⟩=some (.int .i64 kd):=cd 0 _ d (by decide) rfl;have z1:w1.cell? ⟨w.heap.size,m*5+1,none⟩=some (.int .i64 A):=cd 1 _ d (by decide) rfl;have z2:w1.cell? ⟨w.heap.size,m*5+2,none⟩=some (.int .i64 B):=cd 2 _ d (by decide) rfl;unfold execOp;simp only [hop,e54];go_simp;try rfl⟩⟩
  ·have e5:=agr_base hA hAg (t:=5) (by kernel_rfl) rfl
   obtain ⟨o,ho,hop,hg,haf⟩:∃ o,(enOps 12)[15]?=some o∧o.op=.load 38 (.tmp 5)∧o.guard=some (7,false)∧(o.after.any fun e=>Region.binds .any e && e.on == 7)=true:=⟨_,rfl,rfl,rfl,by kernel_rfl⟩
   exact ⟨o,ho,.inr ⟨(agr_wanted hA hAg hr ho (j:=7) hg haf rfl rfl (by decide) (x:=false) rfl).trans rfl,by rw [hop];first|rfl|kernel_rfl,fun d=>by show _=Result.ok (Next.value (.agg #[.int .i64 kd,.int .i64 A,.int .i64 B])) _;have z0:=cx 0 _ d rfl;have z1:=cx 1 _ d rfl;have z2:=cx 2 _ d rfl;unfold execOp;simp only [hop,e5];go_simp;try rfl⟩⟩
  ·have e55:=agr_own hA hAg hr rfl (j:=14) (by kernel_rfl) rfl (t:=55) rfl (by decide) rfl
   have e56:=agr_own hA hAg hr rfl (j:=15) (by kernel_rfl) rfl (t:=56) rfl (by decide) rfl
   obtain ⟨o,ho,hop,hg,haf⟩:∃ o,(enOps 12)[16]?=some o∧o.op=.binOp .neq 38 (.tmp 55) (.tmp 56) 38∧o.guard=some (7,false)∧(o.after.any fun e=>Region.binds .any e && e.on == 7)=true:=⟨_,rfl,rfl,rfl,by kernel_rfl⟩
   exact ⟨o,ho,.inr ⟨(agr_wanted hA hAg hr ho (j:=7) hg haf rfl rfl (by decide) (x:=false) rfl).trans rfl,by rw [hop];first|rfl|kernel_rfl,fun d=>by show _=Result.ok (Next.value (.bool false)) _;unfold execOp;simp only [hop,e55,e56];go_simp;try simp⟩⟩
  ·have e48:=agr_own hA hAg hr rfl (j:=7) (by kernel_rfl) rfl (t:=48) rfl (by decide) rfl
   have e57:=agr_own hA hAg hr rfl (j:=16) (by kernel_rfl) rfl (t:=57) rfl (by decide) rfl
   obtain ⟨o,ho,hop,hg⟩:∃ o,(enOps 12)[17]?=some o∧o.op=.pick (.tmp 48) (.const (.bool true)) (.tmp 57)∧o.guard=none:=⟨_,rfl,rfl,rfl⟩
   exact ⟨o,ho,.inr ⟨wanted_none hg,by rw [hop];first|rfl|kernel_rfl,fun d=>by show _=Result.ok (Next.value (.bool false)) _;unfold execOp;simp only [hop,e48,e57];go_simp⟩⟩
 ·replace hA:Lvs 67 [(58,.bool false),(12,.slice (some ⟨w.heap.size,0,none⟩) ((m+1:Nat)) ((m+1:Nat))),(0,vl),(1,.int .i64 p),(5,.pointer (some ⟨bx,0,none⟩)),(6,.pointer (some ⟨by_,0,none⟩)),(7,.bool false)] a':=lvs_agr hA hAg hall (fun p hp=>by
   simp only [List.mem_cons,List.not_mem_nil,or_false] at hp
   rcases hp with rfl|rfl|rfl|rfl|rfl|rfl|rfl
   ·exact .inl ⟨17,_,rfl,rfl,rfl,by decide⟩
   ·exact .inr ⟨by kernel_rfl,rfl⟩
   ·exact .inr ⟨by kernel_rfl,rfl⟩
   ·exact .inr ⟨by kernel_rfl,rfl⟩
   ·exact .inr ⟨by kernel_rfl,rfl⟩
   ·exact .inr ⟨by kernel_rfl,rfl⟩
   ·exact .inr ⟨by kernel_rfl,rfl⟩)
  clear hAg hall
  refine Br.liv_cond (t:=false) (hA.get rfl) ?_
  refine Br.liv_skip ?_
  refine Br.liv_seq ?_
  refine lg_region (ops:=enOps 14) (n:=14) (il:=[0,1,2,3,4,5,6,7]) (by kernel_rfl) ?_
  refine wm (v:=.slice (some ⟨w.heap.size,0,none⟩) ((m+1:Nat)) ((m+1:Nat))) hA rfl rfl rfl (hA.get rfl) rfl rfl (fun a hA=>?_)
  refine wm (v:=.slice (some ⟨w.heap.size,0,none⟩) ((m+1:Nat)) ((m+1:Nat))) hA rfl rfl rfl (hA.get rfl) rfl rfl (fun a hA=>?_)
  have e61:=hA.get (t:=61) rfl
  refine lw_val (v:=.int .i64 ((m+1:Nat))) hA rfl (wanted_none rfl) (by decide) (by kernel_rfl) rfl (by decide) (fun d=>run_len rfl Tryd.underlying65 e61) (fun a hA=>?_)
  clear e61
  refine wop (v:=.int .i64 ((m:Int))) (op:=.binOp .sub 3 (.tmp 62) (.const (.int .i64 1)) 3) hA rfl rfl rfl rfl rfl rfl (fun o hop d=>by have z9:IntKind.i64.wrap (m:Int)=(m:Int):=(by rw [IntKind.wrap_i64];omega);unfold execOp;simp only [hop,hA.get (t:=62) rfl];go_simp) (fun a hA=>?_)
  refine wop (v:=.pointer (some ⟨w.heap.size,m*5,none⟩)) (op:=.indexAddr 65 (.tmp 60) (.tmp 63)) hA rfl rfl rfl rfl rfl rfl (fun o hop d=>by unfold execOp;simp only [hop,hA.get (t:=60) rfl,hA.get (t:=63) rfl];go_simp;try (intro h;omega)) (fun a (hA:Lvs 67 [(64,.pointer (some ⟨w.heap.size,m*5,none⟩)),(63,.int .i64 ((m:Int))),(62,.int .i64 ((m+1:Nat))),(61,.slice (some ⟨w.heap.size,0,none⟩) ((m+1:Nat)) ((m+1:Nat))),(60,.slice (some ⟨w.heap.size,0,none⟩) ((m+1:Nat)) ((m+1:Nat))),(58,.bool false),(12,.slice (some ⟨w.heap.size,0,none⟩) ((m+1:Nat)) ((m+1:Nat))),(0,vl),(1,.int .i64 p),(5,.pointer (some ⟨bx,0,none⟩)),(6,.pointer (some ⟨by_,0,none⟩)),(7,.bool false)] a)=>?_)
  refine wop (v:=.agg #[.int .i64 kd,.int .i64 A,.int .i64 B,.int .i64 er,.int .i64 va]) (op:=.load 70 (.tmp 64)) hA rfl rfl rfl rfl rfl rfl (fun o hop d=>by have z0:w1.cell? ⟨w.heap.size,m*5,none⟩=some (.int .i64 kd):=cd 0 _ d (by decide) rfl;have z1:w1.cell? ⟨w.heap.size,m*5+1,none⟩=some (.int .i64 A):=cd 1 _ d (by decide) rfl;have z2:w1.cell? ⟨w.heap.size,m*5+2,none⟩=some (.int .i64 B):=cd 2 _ d (by decide) rfl;have z3:w1.cell? ⟨w.heap.size,m*5+3,none⟩=some (.int .i64 er):=cd 3 _ d (by decide) rfl;have z4:w1.cell? ⟨w.heap.size,m*5+4,none⟩=some (.int .i64 va):=cd 4 _ d (by decide) rfl;unfold execOp;simp only [hop,hA.get (t:=64) rfl];go_simp;try rfl) (fun a hA=>?_)
  have e6:=hA.get (t:=6) rfl
  have e65:=hA.get (t:=65) rfl
  have hft1:Fit (sfO l) w1:=⟨fun j hj=>by
   obtain ⟨c,t,hc⟩:=hft.soft j hj
   exact ⟨c,t,by rw [hG.old j (Array.getElem?_eq_some_iff.1 hc).1];exact hc⟩,trivial⟩
  obtain ⟨o',ho,hop,hd,hg⟩:∃ o',(enOps 14)[6]?=some o'∧o'.op=.store 70 (.tmp 6) (.tmp 65)∧o'.dst=none∧o'.guard=none:=⟨_,rfl,rfl,rfl,rfl⟩
  refine lw_storeRow hA ho hg (by decide) hop hd hft1 e6 e65 hY1 (by rfl) (by kernel_rfl) (by kernel_rfl) hz (fun w2 hs2 hk2 hX2=>?_)
  clear ho hop hd hg e6 e65
  refine wt (v:=.bool true) hA rfl rfl rfl rfl rfl rfl (fun a hA=>?_)
  refine Br.liv_region_end ?_
  replace hA:Lvs 67 [(6,.pointer (some ⟨by_,0,none⟩)),(7,.bool true)] a:=hA.cut ⟨rfl,rfl,trivial⟩
  refine Br.liv_ret ?_
  have e6:=hA.get (t:=6) rfl
  have e7:=hA.get (t:=7) rfl
  refine liv_leaveC (v:=.tuple #[.agg #[.int .i64 kd,.int .i64 A,.int .i64 B,.int .i64 er,.int .i64 va],.bool true]) rfl hA.defers Tryd.func23 (fun d=>?_) (hn w2 (by have:=hG.size;omega) (fun j hj hne=>(hk2 j hne).trans (hG.old j hj)))
  have LA:(w2.at d).rangeAt by_ 0 [.int .i64 kd,.int .i64 A,.int .i64 B,.int .i64 er,.int .i64 va]:=fun j v hv=>by
   show w2.cell? _=_
   simp only [World.cell?,hX2,Nat.zero_add]
   simpa using hv
  rw [results_cell_tmp Tryd.results23,show a.tmps.getD 6 undef=_ from e6,show a.tmps.getD 7 undef=_ from e7]
  have hl:=run_loadVar_mid (P:=Tryd.prog) (w2.at d) by_ 0 70 _ _ LA Tryd.underlying70 rfl (by kernel_rfl)
  simp only [asAddr,Sem.run_pure,Result.andThen_ok,hl]
end Go.Proofs.YtcgabodkegcpgaaDoor
