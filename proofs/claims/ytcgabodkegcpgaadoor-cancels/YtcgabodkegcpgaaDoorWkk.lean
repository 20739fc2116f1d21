/- Cancels compares two States. No statement of the program is proved here. -/
import Derived.Test.YtcgabodkegcpgaaDoorWkh
namespace Go.Proofs.YtcgabodkegcpgaaDoor
open Go.Conc Go.RowKit
open Br (X OpD KO SO SP sfO Lk Fit Must DL Liv Clear)
set_option linter.unusedVariables false
set_option linter.unusedSimpArgs false
set_option maxHeartbeats 4000000
theorem ld_state {w:World}{b gF gS gD:Nat}{K:Ker}(h:w.heap[b]?=some (.cells (stRow K gF gS gD) 45 (0,0)))(d:Nat):(Instr.loadAt 45 (.pointer (some ⟨b,0,none⟩))).run Tryd.prog (w.at d)=.ok (.agg (stRow K gF gS gD)) (w.at d) :=
 run_loadAt_mid (w.at d) b 0 45 [.slice (some ⟨gF,0,none⟩) K.nF K.nF,.slice (some ⟨gS,0,none⟩) K.nS K.nS,.slice (some ⟨gD,0,none⟩) K.nD K.nD] _ (fun j x hx=>by
  show w.cell? _=_
  simp only [World.cell?,h,Nat.zero_add]
  simpa [stRow] using hx) Tryd.underlying45 rfl (by kernel_rfl)
set_option maxRecDepth 100000 in
theorem cn_29 {kb:Kb}{l:List OpD}{K0 K:Ker}{L:Nat→Option Lv}{r:Nat}{Inb:Nat→Option Seat}{nG:Nat}{w:World}{Stop:Goroutine→World→Prop}{b1 b2 gF gS gD kF kS kD:Nat}{vc vo vk vl vd:Value}(co:Co kb l K0 L r Inb nG w)(hb:K.nF≤32∧K.nS≤32∧K.nD≤32)(hX1:w.heap[b1]?=some (.cells (stRow K gF gS gD) 45 (0,0)))(hX2:w.heap[b2]?=some (.cells (stRow K kF kS kD) 45 (0,0)))(S1:Snap w gF gS gD K)(S2:Snap w kF kS kD K)
  (z1:sfO l gF=0∧sfO l gS=0∧sfO l gD=0)(z2:sfO l kF=0∧sfO l kS=0∧sfO l kD=0){a:Act}(hA:Lvs 211 [(2,vc),(5,vo),(6,vk),(8,vl),(11,.pointer (some ⟨b1,0,none⟩)),(12,vd),(16,.pointer (some ⟨b2,0,none⟩))] a)(k:List Item)(cs:List Frame)
  (hn:∀ a' w',Grown w w'→Lvs 211 [(2,vc),(5,vo),(6,vk),(8,vl),(11,.pointer (some ⟨b1,0,none⟩)),(12,vd),(16,.pointer (some ⟨b2,0,none⟩)),(17,.bool true)] a'→Liv Tryd.prog true true (sfO l) Stop (G ((base 6).at a' k) cs) w') :
  Liv Tryd.prog true true (sfO l) Stop (G ((base 6).at a (.code (rg 29)::k)) cs) w:=by
 refine lw_region (n:=29) (m:=0) (il:=[0,1,2,3]) (by kernel_rfl) ?_
 obtain ⟨o,ho,hop,hd,hg⟩:∃ o,(cnOps 29)[0]?=some o∧o.op=.load 45 (.tmp 11)∧o.dst=some 114∧o.guard=none:=⟨_,rfl,rfl,rfl,rfl⟩
 have e11:=hA.get (t:=11) rfl
 refine lw_val (v:=.agg (stRow K gF gS gD)) hA ho (wanted_none hg) (by decide) (by rw [hop];rfl) hd (by decide) (fun d=>by have hl:=ld_state hX1 d;unfold execOp;simp only [hop,e11];simp only [Sem.run_bind,hl,Result.andThen_ok];rfl) (fun a (hA:Lvs 211 [(114,.agg (stRow K gF gS gD)),(2,vc),(5,vo),(6,vk),(8,vl),(11,.pointer (some ⟨b1,0,none⟩)),(12,vd),(16,.pointer (some ⟨b2,0,none⟩))] a)=>?_)
 clear ho hop hd hg e11
 obtain ⟨o,ho,hop,hd,hg⟩:∃ o,(cnOps 29)[1]?=some o∧o.op=.load 45 (.tmp 16)∧o.dst=some 115∧o.guard=none:=⟨_,rfl,rfl,rfl,rfl⟩
 have e16:=hA.get (t:=16) rfl
 refine lw_val (v:=.agg (stRow K kF kS kD)) hA ho (wanted_none hg) (by decide) (by rw [hop];rfl) hd (by decide) (fun d=>by have hl:=ld_state hX2 d;unfold execOp;simp only [hop,e16];simp only [Sem.run_bind,hl,Result.andThen_ok];rfl) (fun a (hA:Lvs 211 [(115,.agg (stRow K kF kS kD)),(114,.agg (stRow K gF gS gD)),(2,vc),(5,vo),(6,vk),(8,vl),(11,.pointer (some ⟨b1,0,none⟩)),(12,vd),(16,.pointer (some ⟨b2,0,none⟩))] a)=>?_)
 clear ho hop hd hg e16
 have e114:=hA.get (t:=114) rfl
 have e115:=hA.get (t:=115) rfl
 refine lw_call (vs:=#[.agg (stRow K gF gS gD),.agg (stRow K kF kS kD)]) hA rfl rfl (by decide) rfl rfl (by decide) Tryd.func14 rfl rfl (by simp only [List.map_toArray,List.map_cons,List.map_nil,e114,e115]) (fun fr cs d=>must_sameState co (K1:=K) (K2:=K) hb rfl rfl rfl S1 S2 z1 z2 fr cs d) (fun u w' hR a hA=>?_)
 obtain ⟨hG,t,rfl,ht⟩:=hR
 replace hA:Lvs 211 [(116,.bool t),(115,.agg (stRow K kF kS kD)),(114,.agg (stRow K gF gS gD)),(2,vc),(5,vo),(6,vk),(8,vl),(11,.pointer (some ⟨b1,0,none⟩)),(12,vd),(16,.pointer (some ⟨b2,0,none⟩))] a:=hA
 obtain rfl:=ht rfl
 refine lw_val (v:=.bool true) hA rfl (wanted_none rfl) (by decide) (by kernel_rfl) rfl (by decide) (fun d=>run_assign rfl (hA.get rfl)) (fun a (hA:Lvs 211 [(17,.bool true),(116,.bool true),(115,.agg (stRow K kF kS kD)),(114,.agg (stRow K gF gS gD)),(2,vc),(5,vo),(6,vk),(8,vl),(11,.pointer (some ⟨b1,0,none⟩)),(12,vd),(16,.pointer (some ⟨b2,0,none⟩))] a)=>?_)
 refine Br.liv_region_end ?_
 replace hA:Lvs 211 [(2,vc),(5,vo),(6,vk),(8,vl),(11,.pointer (some ⟨b1,0,none⟩)),(12,vd),(16,.pointer (some ⟨b2,0,none⟩)),(17,.bool true)] a:=hA.sub (fun p hp=>by
  simp only [List.mem_cons,List.not_mem_nil,or_false] at hp
  rcases hp with rfl|rfl|rfl|rfl|rfl|rfl|rfl|rfl<;>rfl)
 exact hn a _ hG hA
set_option maxRecDepth 100000 in
theorem cn_39 {kb:Kb}{l:List OpD}{K0 K:Ker}{L:Nat→Option Lv}{r:Nat}{Inb:Nat→Option Seat}{nG:Nat}{w:World}{Stop:Goroutine→World→Prop}{b1 b2 gF gS gD kF kS kD:Nat}{vo vk vl vd vs:Value}(co:Co kb l K0 L r Inb nG w)(hb:K.nF≤32∧K.nS≤32∧K.nD≤32)(hX1:w.heap[b1]?=some (.cells (stRow K gF gS gD) 45 (0,0)))(hX2:w.heap[b2]?=some (.cells (stRow K kF kS kD) 45 (0,0)))(S1:Snap w gF gS gD K)(S2:Snap w kF kS kD K)
  (z1:sfO l gF=0∧sfO l gS=0∧sfO l gD=0)(z2:sfO l kF=0∧sfO l kS=0∧sfO l kD=0){a:Act}(hA:Lvs 211 [(5,vo),(6,vk),(8,vl),(11,.pointer (some ⟨b1,0,none⟩)),(12,vd),(17,vs),(25,.pointer (some ⟨b2,0,none⟩))] a)(k:List Item)(cs:List Frame)
  (hn:∀ a' w',Grown w w'→Lvs 211 [(5,vo),(6,vk),(8,vl),(11,.pointer (some ⟨b1,0,none⟩)),(12,vd),(17,vs),(25,.pointer (some ⟨b2,0,none⟩)),(26,.bool true)] a'→Liv Tryd.prog true true (sfO l) Stop (G ((base 6).at a' k) cs) w') :
  Liv Tryd.prog true true (sfO l) Stop (G ((base 6).at a (.code (rg 39)::k)) cs) w:=by
 refine lw_region (n:=39) (m:=0) (il:=[0,1,2,3]) (by kernel_rfl) ?_
 obtain ⟨o,ho,hop,hd,hg⟩:∃ o,(cnOps 39)[0]?=some o∧o.op=.load 45 (.tmp 11)∧o.dst=some 167∧o.guard=none:=⟨_,rfl,rfl,rfl,rfl⟩
 have e11:=hA.get (t:=11) rfl
 refine lw_val (v:=.agg (stRow K gF gS gD)) hA ho (wanted_none hg) (by decide) (by rw [hop];rfl) hd (by decide) (fun d=>by have hl:=ld_state hX1 d;unfold execOp;simp only [hop,e11];simp only [Sem.run_bind,hl,Result.andThen_ok];rfl) (fun a (hA:Lvs 211 [(167,.agg (stRow K gF gS gD)),(5,vo),(6,vk),(8,vl),(11,.pointer (some ⟨b1,0,none⟩)),(12,vd),(17,vs),(25,.pointer (some ⟨b2,0,none⟩))] a)=>?_)
 clear ho hop hd hg e11
 obtain ⟨o,ho,hop,hd,hg⟩:∃ o,(cnOps 39)[1]?=some o∧o.op=.load 45 (.tmp 25)∧o.dst=some 168∧o.guard=none:=⟨_,rfl,rfl,rfl,rfl⟩
 have e25:=hA.get (t:=25) rfl
 refine lw_val (v:=.agg (stRow K kF kS kD)) hA ho (wanted_none hg) (by decide) (by rw [hop];rfl) hd (by decide) (fun d=>by have hl:=ld_state hX2 d;unfold execOp;simp only [hop,e25];simp only [Sem.run_bind,hl,Result.andThen_ok];rfl) (fun a (hA:Lvs 211 [(168,.agg (stRow K kF kS kD)),(167,.agg (stRow K gF gS gD)),(5,vo),(6,vk),(8,vl),(11,.pointer (some ⟨b1,0,none⟩)),(12,vd),(17,vs),(25,.pointer (some ⟨b2,0,none⟩))] a)=>?_)
 clear ho hop hd hg e25
 have e167:=hA.get (t:=167) rfl
 have e168:=hA.get (t:=168) rfl
 refine lw_call (vs:=#[.agg (stRow K gF gS gD),.agg (stRow K kF kS kD)]) hA rfl rfl (by decide) rfl rfl (by decide) Tryd.func14 rfl rfl (by simp only [List.map_toArray,List.map_cons,List.map_nil,e167,e168]) (fun fr cs d=>must_sameState co (K1:=K) (K2:=K) hb rfl rfl rfl S1 S2 z1 z2 fr cs d) (fun u w' hR a hA=>?_)
 obtain ⟨hG,t,rfl,ht⟩:=hR
 replace hA:Lvs 211 [(169,.bool t),(168,.agg (stRow K kF kS kD)),(167,.agg (stRow K gF gS gD)),(5,vo),(6,vk),(8,vl),(11,.pointer (some ⟨b1,0,none⟩)),(12,vd),(17,vs),(25,.pointer (some ⟨b2,0,none⟩))] a:=hA
 obtain rfl:=ht rfl
 refine lw_val (v:=.bool true) hA rfl (wanted_none rfl) (by decide) (by kernel_rfl) rfl (by decide) (fun d=>run_assign rfl (hA.get rfl)) (fun a (hA:Lvs 211 [(26,.bool true),(169,.bool true),(168,.agg (stRow K kF kS kD)),(167,.agg (stRow K gF gS gD)),(5,vo),(6,vk),(8,vl),(11,.pointer (some ⟨b1,0,none⟩)),(12,vd),(17,vs),(25,.pointer (some ⟨b2,0,none⟩))] a)=>?_)
 refine Br.liv_region_end ?_
 replace hA:Lvs 211 [(5,vo),(6,vk),(8,vl),(11,.pointer (some ⟨b1,0,none⟩)),(12,vd),(17,vs),(25,.pointer (some ⟨b2,0,none⟩)),(26,.bool true)] a:=hA.sub (fun p hp=>by
  simp only [List.mem_cons,List.not_mem_nil,or_false] at hp
  rcases hp with rfl|rfl|rfl|rfl|rfl|rfl|rfl|rfl<;>rfl)
 exact hn a _ hG hA
set_option maxRecDepth 100000 in
theorem cn_24 {kb:Kb}{l:List OpD}{K:Ker}{L:Nat→Option Lv}{r:Nat}{Inb:Nat→Option Seat}{nG:Nat}{w:World}{b:Lb}{n B0:Nat}{U:Nat→Option OpD}{V:Nat→Value}{N:Nat→Nat}{Xs:Nat→List Value}{Stop:Goroutine→World→Prop}{vc vo vk vb vd:Value}(co:Co kb l K L r Inb nG w)(lm:LibM0 kb l L w b n B0 U V N Xs){p:Nat}(hp:p<n)(hN:N p≤4398046511104)(hx:∀ x∈Xs p,x.oneCell'=true){a:Act}(hA:Lvs 211 [(2,vc),(5,vo),(6,vk),(8,.pointer (some ⟨b.bl,0,none⟩)),(11,vb),(12,vd),(13,.int .i64 p)] a)(k:List Item)(cs:List Frame)
  (hn:∀ a' w',Grown w w'→w'.rowIs w.heap.size 70 (N p*5) (fun j=>(Xs p).getD j (.bool false))→Lvs 211 [(2,vc),(5,vo),(6,vk),(8,.pointer (some ⟨b.bl,0,none⟩)),(11,vb),(12,vd),(13,.int .i64 p),(14,.slice (some ⟨w.heap.size,0,none⟩) (N p) (N p)),(15,.int .i64 0)] a'→Liv Tryd.prog true true (sfO l) Stop (G ((base 6).at a' k) cs) w') :
  Liv Tryd.prog true true (sfO l) Stop (G ((base 6).at a (.code (rg 24)::k)) cs) w:=by
 refine lw_region (n:=24) (m:=0) (il:=[0,1,2,3,4,5,6,7]) (by kernel_rfl) ?_
 refine lw_val (v:=.pointer (some ⟨b.bl,0,none⟩)) hA rfl (wanted_none rfl) (by decide) (by kernel_rfl) rfl (by decide) (fun d=>run_move rfl (hA.get rfl)) (fun a (hA:Lvs 211 [(96,.pointer (some ⟨b.bl,0,none⟩)),(2,vc),(5,vo),(6,vk),(8,.pointer (some ⟨b.bl,0,none⟩)),(11,vb),(12,vd),(13,.int .i64 p)] a)=>?_)
 refine lw_val (v:=.int .i64 p) hA rfl (wanted_none rfl) (by decide) (by kernel_rfl) rfl (by decide) (fun d=>run_move rfl (hA.get rfl)) (fun a (hA:Lvs 211 [(97,.int .i64 p),(96,.pointer (some ⟨b.bl,0,none⟩)),(2,vc),(5,vo),(6,vk),(8,.pointer (some ⟨b.bl,0,none⟩)),(11,vb),(12,vd),(13,.int .i64 p)] a)=>?_)
 have e96:=hA.get (t:=96) rfl
 have e97:=hA.get (t:=97) rfl
 refine lw_call (vs:=#[.pointer (some ⟨b.bl,0,none⟩),.int .i64 (p:Nat)]) hA rfl rfl (by decide) rfl rfl (by decide) Tryd.func21 rfl rfl (by simp only [List.map_toArray,List.map_cons,List.map_nil,e96,e97]) (fun fr cs d=>must_done co lm hp hN hx fr cs d) (fun u w' hR a hA=>?_)
 obtain ⟨hG,rfl,hrow⟩:=hR
 replace hA:Lvs 211 [(98,.tuple #[.slice (some ⟨w.heap.size,0,none⟩) (N p) (N p),.int .i64 0]),(97,.int .i64 p),(96,.pointer (some ⟨b.bl,0,none⟩)),(2,vc),(5,vo),(6,vk),(8,.pointer (some ⟨b.bl,0,none⟩)),(11,vb),(12,vd),(13,.int .i64 p)] a:=hA
 refine lw_val (v:=.tuple #[.slice (some ⟨w.heap.size,0,none⟩) (N p) (N p),.int .i64 0]) hA rfl (wanted_none rfl) (by decide) (by kernel_rfl) rfl (by decide) (fun d=>run_move rfl (hA.get rfl)) (fun a (hA:Lvs 211 [(95,.tuple #[.slice (some ⟨w.heap.size,0,none⟩) (N p) (N p),.int .i64 0]),(98,.tuple #[.slice (some ⟨w.heap.size,0,none⟩) (N p) (N p),.int .i64 0]),(97,.int .i64 p),(96,.pointer (some ⟨b.bl,0,none⟩)),(2,vc),(5,vo),(6,vk),(8,.pointer (some ⟨b.bl,0,none⟩)),(11,vb),(12,vd),(13,.int .i64 p)] a)=>?_)
 obtain ⟨o,ho,hop,hd,hg⟩:∃ o,(cnOps 24)[4]?=some o∧o.op=.extract (.tmp 95) 0∧o.dst=some 99∧o.guard=none:=⟨_,rfl,rfl,rfl,rfl⟩
 have e95:=hA.get (t:=95) rfl
 refine lw_val (v:=.slice (some ⟨w.heap.size,0,none⟩) (N p) (N p)) hA ho (wanted_none hg) (by decide) (by rw [hop];rfl) hd (by decide) (fun d=>by unfold execOp;simp only [hop,e95];rfl) (fun a (hA:Lvs 211 [(99,.slice (some ⟨w.heap.size,0,none⟩) (N p) (N p)),(95,.tuple #[.slice (some ⟨w.heap.size,0,none⟩) (N p) (N p),.int .i64 0]),(98,.tuple #[.slice (some ⟨w.heap.size,0,none⟩) (N p) (N p),.int .i64 0]),(97,.int .i64 p),(96,.pointer (some ⟨b.bl,0,none⟩)),(2,vc),(5,vo),(6,vk),(8,.pointer (some ⟨b.bl,0,none⟩)),(11,vb),(12,vd),(13,.int .i64 p)] a)=>?_)
 clear ho hop hd hg e95
 obtain ⟨o,ho,hop,hd,hg⟩:∃ o,(cnOps 24)[5]?=some o∧o.op=.extract (.tmp 95) 1∧o.dst=some 100∧o.guard=none:=⟨_,rfl,rfl,rfl,rfl⟩
 have e95:=hA.get (t:=95) rfl
 refine lw_val (v:=.int .i64 0) hA ho (wanted_none hg) (by decide) (by rw [hop];rfl) hd (by decide) (fun d=>by unfold execOp;simp only [hop,e95];rfl) (fun a (hA:Lvs 211 [(100,.int .i64 0),(99,.slice (some ⟨w.heap.size,0,none⟩) (N p) (N p)),(95,.tuple #[.slice (some ⟨w.heap.size,0,none⟩) (N p) (N p),.int .i64 0]),(98,.tuple #[.slice (some ⟨w.heap.size,0,none⟩) (N p) (N p),.int .i64 0]),(97,.int .i64 p),(96,.pointer (some ⟨b.bl,0,none⟩)),(2,vc),(5,vo),(6,vk),(8,.pointer (some ⟨b.bl,0,none⟩)),(11,vb),(12,vd),(13,.int .i64 p)] a)=>?_)
 clear ho hop hd hg e95
 refine lw_val (v:=.slice (some ⟨w.heap.size,0,none⟩) (N p) (N p)) hA rfl (wanted_none rfl) (by decide) (by kernel_rfl) rfl (by decide) (fun d=>run_assign rfl (hA.get rfl)) (fun a (hA:Lvs 211 [(14,.slice (some ⟨w.heap.size,0,none⟩) (N p) (N p)),(100,.int .i64 0),(99,.slice (some ⟨w.heap.size,0,none⟩) (N p) (N p)),(95,.tuple #[.slice (some ⟨w.heap.size,0,none⟩) (N p) (N p),.int .i64 0]),(98,.tuple #[.slice (some ⟨w.heap.size,0,none⟩) (N p) (N p),.int .i64 0]),(97,.int .i64 p),(96,.pointer (some ⟨b.bl,0,none⟩)),(2,vc),(5,vo),(6,vk),(8,.pointer (some ⟨b.bl,0,none⟩)),(11,vb),(12,vd),(13,.int .i64 p)] a)=>?_)
 refine lw_val (v:=.int .i64 0) hA rfl (wanted_none rfl) (by decide) (by kernel_rfl) rfl (by decide) (fun d=>run_assign rfl (hA.get rfl)) (fun a (hA:Lvs 211 [(15,.int .i64 0),(14,.slice (some ⟨w.heap.size,0,none⟩) (N p) (N p)),(100,.int .i64 0),(99,.slice (some ⟨w.heap.size,0,none⟩) (N p) (N p)),(95,.tuple #[.slice (some ⟨w.heap.size,0,none⟩) (N p) (N p),.int .i64 0]),(98,.tuple #[.slice (some ⟨w.heap.size,0,none⟩) (N p) (N p),.int .i64 0]),(97,.int .i64 p),(96,.pointer (some ⟨b.bl,0,none⟩)),(2,vc),(5,vo),(6,vk),(8,.pointer (some ⟨b.bl,0,none⟩)),(11,vb),(12,vd),(13,.int .i64 p)] a)=>?_)
 refine Br.liv_region_end ?_
 replace hA:Lvs 211 [(2,vc),(5,vo),(6,vk),(8,.pointer (some ⟨b.bl,0,none⟩)),(11,vb),(12,vd),(13,.int .i64 p),(14,.slice (some ⟨w.heap.size,0,none⟩) (N p) (N p)),(15,.int .i64 0)] a:=hA.sub (fun p hp=>by
  simp only [List.mem_cons,List.not_mem_nil,or_false] at hp
  rcases hp with rfl|rfl|rfl|rfl|rfl|rfl|rfl|rfl|rfl<;>rfl)
 exact hn a _ hG hrow hA
set_option maxRecDepth 100000 in
theorem cn_34 {kb:Kb}{l:List OpD}{K:Ker}{L:Nat→Option Lv}{r:Nat}{Inb:Nat→Option Seat}{nG:Nat}{w:World}{b:Lb}{n B0:Nat}{U:Nat→Option OpD}{V:Nat→Value}{N:Nat→Nat}{Xs:Nat→List Value}{Stop:Goroutine→World→Prop}{vc vo vk vb vd vs v1 v2:Value}(co:Co kb l K L r Inb nG w)(lm:LibM0 kb l L w b n B0 U V N Xs){p:Nat}(hp:p<n)(hN:N p≤4398046511104)(hx:∀ x∈Xs p,x.oneCell'=true){a:Act}(hA:Lvs 211 [(2,vc),(5,vo),(6,vk),(8,.pointer (some ⟨b.bl,0,none⟩)),(11,vb),(12,vd),(17,vs),(18,.int .i64 p),(19,v1),(20,v2)] a)(k:List Item)(cs:List Frame)
  (hn:∀ a' w',Grown w w'→w'.rowIs w.heap.size 70 (N p*5) (fun j=>(Xs p).getD j (.bool false))→Lvs 211 [(2,vc),(5,vo),(6,vk),(8,.pointer (some ⟨b.bl,0,none⟩)),(11,vb),(12,vd),(17,vs),(18,.int .i64 p),(19,v1),(20,v2),(21,.slice (some ⟨w.heap.size,0,none⟩) (N p) (N p)),(22,.int .i64 0)] a'→Liv Tryd.prog true true (sfO l) Stop (G ((base 6).at a' k) cs) w') :
  Liv Tryd.prog true true (sfO l) Stop (G ((base 6).at a (.code (rg 34)::k)) cs) w:=by
 refine lw_region (n:=34) (m:=0) (il:=[0,1,2,3,4,5,6,7]) (by kernel_rfl) ?_
 refine lw_val (v:=.pointer (some ⟨b.bl,0,none⟩)) hA rfl (wanted_none rfl) (by decide) (by kernel_rfl) rfl (by decide) (fun d=>run_move rfl (hA.get rfl)) (fun a (hA:Lvs 211 [(130,.pointer (some ⟨b.bl,0,none⟩)),(2,vc),(5,vo),(6,vk),(8,.pointer (some ⟨b.bl,0,none⟩)),(11,vb),(12,vd),(17,vs),(18,.int .i64 p),(19,v1),(20,v2)] a)=>?_)
 refine lw_val (v:=.int .i64 p) hA rfl (wanted_none rfl) (by decide) (by kernel_rfl) rfl (by decide) (fun d=>run_move rfl (hA.get rfl)) (fun a (hA:Lvs 211 [(131,.int .i64 p),(130,.pointer (some ⟨b.bl,0,none⟩)),(2,vc),(5,vo),(6,vk),(8,.pointer (some ⟨b.bl,0,none⟩)),(11,vb),(12,vd),(17,vs),(18,.int .i64 p),(19,v1),(20,v2)] a)=>?_)
 have e130:=hA.get (t:=130) rfl
 have e131:=hA.get (t:=131) rfl
 refine lw_call (vs:=#[.pointer (some ⟨b.bl,0,none⟩),.int .i64 (p:Nat)]) hA rfl rfl (by decide) rfl rfl (by decide) Tryd.func21 rfl rfl (by simp only [List.map_toArray,List.map_cons,List.map_nil,e130,e131]) (fun fr cs d=>must_done co lm hp hN hx fr cs d) (fun u w' hR a hA=>?_)
 obtain ⟨hG,rfl,hrow⟩:=hR
 replace hA:Lvs 211 [(132,.tuple #[.slice (some ⟨w.heap.size,0,none⟩) (N p) (N p),.int .i64 0]),(131,.int .i64 p),(130,.pointer (some ⟨b.bl,0,none⟩)),(2,vc),(5,vo),(6,vk),(8,.pointer (some ⟨b.bl,0,none⟩)),(11,vb),(12,vd),(17,vs),(18,.int .i64 p),(19,v1),(20,v2)] a:=hA
 refine lw_val (v:=.tuple #[.slice (some ⟨w.heap.size,0,none⟩) (N p) (N p),.int .i64 0]) hA rfl (wanted_none rfl) (by decide) (by kernel_rfl) rfl (by decide) (fun d=>run_move rfl (hA.get rfl)) (fun a (hA:Lvs 211 [(129,.tuple #[.slice (some ⟨w.heap.size,0,none⟩) (N p) (N p),.int .i64 0]),(132,.tuple #[.slice (some ⟨w.heap.size,0,none⟩) (N p) (N p),.int .i64 0]),(131,.int .i64 p),(130,.pointer (some ⟨b.bl,0,none⟩)),(2,vc),(5,vo),(6,vk),(8,.pointer (some ⟨b.bl,0,none⟩)),(11,vb),(12,vd),(17,vs),(18,.int .i64 p),(19,v1),(20,v2)] a)=>?_)
 obtain ⟨o,ho,hop,hd,hg⟩:∃ o,(cnOps 34)[4]?=some o∧o.op=.extract (.tmp 129) 0∧o.dst=some 133∧o.guard=none:=⟨_,rfl,rfl,rfl,rfl⟩
 have e129:=hA.get (t:=129) rfl
 refine lw_val (v:=.slice (some ⟨w.heap.size,0,none⟩) (N p) (N p)) hA ho (wanted_none hg) (by decide) (by rw [hop];rfl) hd (by decide) (fun d=>by unfold execOp;simp only [hop,e129];rfl) (fun a (hA:Lvs 211 [(133,.slice (some ⟨w.heap.size,0,none⟩) (N p) (N p)),(129,.tuple #[.slice (some ⟨w.heap.size,0,none⟩) (N p) (N p),.int .i64 0]),(132,.tuple #[.slice (some ⟨w.heap.size,0,none⟩) (N p) (N p),.int .i64 0]),(131,.int .i64 p),(130,.pointer (some ⟨b.bl,0,none⟩)),(2,vc),(5,vo),(6,vk),(8,.pointer (some ⟨b.bl,0,none⟩)),(11,vb),(12,vd),(17,vs),(18,.int .i64 p),(19,v1),(20,v2)] a)=>?_)
 clear ho hop hd hg e129
 obtain ⟨o,ho,hop,hd,hg⟩:∃ o,(cnOps 34)[5]?=some o∧o.op=.extract (.tmp 129) 1∧o.dst=some 134∧o.guard=none:=⟨_,rfl,rfl,rfl,rfl⟩
 have e129:=hA.get (t:=129) rfl
 refine lw_val (v:=.int .i64 0) hA ho (wanted_none hg) (by decide) (by rw [hop];rfl) hd (by decide) (fun d=>by unfold execOp;simp only [hop,e129];rfl) (fun a (hA:Lvs 211 [(134,.int .i64 0),(133,.slice (some ⟨w.heap.size,0,none⟩) (N p) (N p)),(129,.tuple #[.slice (some ⟨w.heap.size,0,none⟩) (N p) (N p),.int .i64 0]),(132,.tuple #[.slice (some ⟨w.heap.size,0,none⟩) (N p) (N p),.int .i64 0]),(131,.int .i64 p),(130,.pointer (some ⟨b.bl,0,none⟩)),(2,vc),(5,vo),(6,vk),(8,.pointer (some ⟨b.bl,0,none⟩)),(11,vb),(12,vd),(17,vs),(18,.int .i64 p),(19,v1),(20,v2)] a)=>?_)
 clear ho hop hd hg e129
 refine lw_val (v:=.slice (some ⟨w.heap.size,0,none⟩) (N p) (N p)) hA rfl (wanted_none rfl) (by decide) (by kernel_rfl) rfl (by decide) (fun d=>run_assign rfl (hA.get rfl)) (fun a (hA:Lvs 211 [(21,.slice (some ⟨w.heap.size,0,none⟩) (N p) (N p)),(134,.int .i64 0),(133,.slice (some ⟨w.heap.size,0,none⟩) (N p) (N p)),(129,.tuple #[.slice (some ⟨w.heap.size,0,none⟩) (N p) (N p),.int .i64 0]),(132,.tuple #[.slice (some ⟨w.heap.size,0,none⟩) (N p) (N p),.int .i64 0]),(131,.int .i64 p),(130,.pointer (some ⟨b.bl,0,none⟩)),(2,vc),(5,vo),(6,vk),(8,.pointer (some ⟨b.bl,0,none⟩)),(11,vb),(12,vd),(17,vs),(18,.int .i64 p),(19,v1),(20,v2)] a)=>?_)
 refine lw_val (v:=.int .i64 0) hA rfl (wanted_none rfl) (by decide) (by kernel_rfl) rfl (by decide) (fun d=>run_assign rfl (hA.get rfl)) (fun a (hA:Lvs 211 [(22,.int .i64 0),(21,.slice (some ⟨w.heap.size,0,none⟩) (N p) (N p)),(134,.int .i64 0),(133,.slice (some ⟨w.heap.size,0,none⟩) (N p) (N p)),(129,.tuple #[.slice (some ⟨w.heap.size,0,none⟩) (N p) (N p),.int .i64 0]),(132,.tuple #[.slice (some ⟨w.heap.size,0,none⟩) (N p) (N p),.int .i64 0]),(131,.int .i64 p),(130,.pointer (some ⟨b.bl,0,none⟩)),(2,vc),(5,vo),(6,vk),(8,.pointer (some ⟨b.bl,0,none⟩)),(11,vb),(12,vd),(17,vs),(18,.int .i64 p),(19,v1),(20,v2)] a)=>?_)
 refine Br.liv_region_end ?_
 replace hA:Lvs 211 [(2,vc),(5,vo),(6,vk),(8,.pointer (some ⟨b.bl,0,none⟩)),(11,vb),(12,vd),(17,vs),(18,.int .i64 p),(19,v1),(20,v2),(21,.slice (some ⟨w.heap.size,0,none⟩) (N p) (N p)),(22,.int .i64 0)] a:=hA.sub (fun p hp=>by
  simp only [List.mem_cons,List.not_mem_nil,or_false] at hp
  rcases hp with rfl|rfl|rfl|rfl|rfl|rfl|rfl|rfl|rfl|rfl|rfl|rfl<;>rfl)
 exact hn a _ hG hrow hA
set_option maxRecDepth 100000 in
theorem cn_41 {kb:Kb}{l:List OpD}{K:Ker}{L:Nat→Option Lv}{r:Nat}{Inb:Nat→Option Seat}{nG:Nat}{w:World}{b:Lb}{n B0:Nat}{U:Nat→Option OpD}{V:Nat→Value}{N:Nat→Nat}{Xs:Nat→List Value}{Stop:Goroutine→World→Prop}{vo vd vs vt v1 v2:Value}(co:Co kb l K L r Inb nG w)(lm:LibM0 kb l L w b n B0 U V N Xs){p:Nat}(hp:p<n)(h0:p=0)(hN:N p≤4398046511104)(hx:∀ x∈Xs p,x.oneCell'=true){a:Act}(hA:Lvs 211 [(5,vo),(8,.pointer (some ⟨b.bl,0,none⟩)),(12,vd),(17,vs),(26,vt),(27,v1),(28,v2)] a)(k:List Item)(cs:List Frame)
  (hn:∀ a' w',Grown w w'→w'.rowIs w.heap.size 70 (N p*5) (fun j=>(Xs p).getD j (.bool false))→Lvs 211 [(5,vo),(8,.pointer (some ⟨b.bl,0,none⟩)),(12,vd),(17,vs),(26,vt),(27,v1),(28,v2),(29,.slice (some ⟨w.heap.size,0,none⟩) (N p) (N p)),(30,.int .i64 0)] a'→Liv Tryd.prog true true (sfO l) Stop (G ((base 6).at a' k) cs) w') :
  Liv Tryd.prog true true (sfO l) Stop (G ((base 6).at a (.code (rg 41)::k)) cs) w:=by
 subst h0
 refine lw_region (n:=41) (m:=0) (il:=[0,1,2,3,4,5,6]) (by kernel_rfl) ?_
 refine lw_val (v:=.pointer (some ⟨b.bl,0,none⟩)) hA rfl (wanted_none rfl) (by decide) (by kernel_rfl) rfl (by decide) (fun d=>run_move rfl (hA.get rfl)) (fun a (hA:Lvs 211 [(176,.pointer (some ⟨b.bl,0,none⟩)),(5,vo),(8,.pointer (some ⟨b.bl,0,none⟩)),(12,vd),(17,vs),(26,vt),(27,v1),(28,v2)] a)=>?_)
 have e176:=hA.get (t:=176) rfl
 refine lw_call (vs:=#[.pointer (some ⟨b.bl,0,none⟩),.int .i64 (0:Nat)]) hA rfl rfl (by decide) rfl rfl (by decide) Tryd.func21 rfl rfl (by simp only [List.map_toArray,List.map_cons,List.map_nil,e176];rfl) (fun fr cs d=>must_done co lm hp hN hx fr cs d) (fun u w' hR a hA=>?_)
 obtain ⟨hG,rfl,hrow⟩:=hR
 replace hA:Lvs 211 [(177,.tuple #[.slice (some ⟨w.heap.size,0,none⟩) (N 0) (N 0),.int .i64 0]),(176,.pointer (some ⟨b.bl,0,none⟩)),(5,vo),(8,.pointer (some ⟨b.bl,0,none⟩)),(12,vd),(17,vs),(26,vt),(27,v1),(28,v2)] a:=hA
 refine lw_val (v:=.tuple #[.slice (some ⟨w.heap.size,0,none⟩) (N 0) (N 0),.int .i64 0]) hA rfl (wanted_none rfl) (by decide) (by kernel_rfl) rfl (by decide) (fun d=>run_move rfl (hA.get rfl)) (fun a (hA:Lvs 211 [(175,.tuple #[.slice (some ⟨w.heap.size,0,none⟩) (N 0) (N 0),.int .i64 0]),(177,.tuple #[.slice (some ⟨w.heap.size,0,none⟩) (N 0) (N 0),.int .i64 0]),(176,.pointer (some ⟨b.bl,0,none⟩)),(5,vo),(8,.pointer (some ⟨b.bl,0,none⟩)),(12,vd),(17,vs),(26,vt),(27,v1),(28,v2)] a)=>?_)
 obtain ⟨o,ho,hop,hd,hg⟩:∃ o,(cnOps 41)[3]?=some o∧o.op=.extract (.tmp 175) 0∧o.dst=some 178∧o.guard=none:=⟨_,rfl,rfl,rfl,rfl⟩
 have e175:=hA.get (t:=175) rfl
 refine lw_val (v:=.slice (some ⟨w.heap.size,0,none⟩) (N 0) (N 0)) hA ho (wanted_none hg) (by decide) (by rw [hop];rfl) hd (by decide) (fun d=>by unfold execOp;simp only [hop,e175];rfl) (fun a (hA:Lvs 211 [(178,.slice (some ⟨w.heap.size,0,none⟩) (N 0) (N 0)),(175,.tuple #[.slice (some ⟨w.heap.size,0,none⟩) (N 0) (N 0),.int .i64 0]),(177,.tuple #[.slice (some ⟨w.heap.size,0,none⟩) (N 0) (N 0),.int .i64 0]),(176,.pointer (some ⟨b.bl,0,none⟩)),(5,vo),(8,.pointer (some ⟨b.bl,0,none⟩)),(12,vd),(17,vs),(26,vt),(27,v1),(28,v2)] a)=>?_)
 clear ho hop hd hg e175
 obtain ⟨o,ho,hop,hd,hg⟩:∃ o,(cnOps 41)[4]?=some o∧o.op=.extract (.tmp 175) 1∧o.dst=some 179∧o.guard=none:=⟨_,rfl,rfl,rfl,rfl⟩
 have e175:=hA.get (t:=175) rfl
 refine lw_val (v:=.int .i64 0) hA ho (wanted_none hg) (by decide) (by rw [hop];rfl) hd (by decide) (fun d=>by unfold execOp;simp only [hop,e175];rfl) (fun a (hA:Lvs 211 [(179,.int .i64 0),(178,.slice (some ⟨w.heap.size,0,none⟩) (N 0) (N 0)),(175,.tuple #[.slice (some ⟨w.heap.size,0,none⟩) (N 0) (N 0),.int .i64 0]),(177,.tuple #[.slice (some ⟨w.heap.size,0,none⟩) (N 0) (N 0),.int .i64 0]),(176,.pointer (some ⟨b.bl,0,none⟩)),(5,vo),(8,.pointer (some ⟨b.bl,0,none⟩)),(12,vd),(17,vs),(26,vt),(27,v1),(28,v2)] a)=>?_)
 clear ho hop hd hg e175
 refine lw_val (v:=.slice (some ⟨w.heap.size,0,none⟩) (N 0) (N 0)) hA rfl (wanted_none rfl) (by decide) (by kernel_rfl) rfl (by decide) (fun d=>run_assign rfl (hA.get rfl)) (fun a (hA:Lvs 211 [(29,.slice (some ⟨w.heap.size,0,none⟩) (N 0) (N 0)),(179,.int .i64 0),(178,.slice (some ⟨w.heap.size,0,none⟩) (N 0) (N 0)),(175,.tuple #[.slice (some ⟨w.heap.size,0,none⟩) (N 0) (N 0),.int .i64 0]),(177,.tuple #[.slice (some ⟨w.heap.size,0,none⟩) (N 0) (N 0),.int .i64 0]),(176,.pointer (some ⟨b.bl,0,none⟩)),(5,vo),(8,.pointer (some ⟨b.bl,0,none⟩)),(12,vd),(17,vs),(26,vt),(27,v1),(28,v2)] a)=>?_)
 refine lw_val (v:=.int .i64 0) hA rfl (wanted_none rfl) (by decide) (by kernel_rfl) rfl (by decide) (fun d=>run_assign rfl (hA.get rfl)) (fun a (hA:Lvs 211 [(30,.int .i64 0),(29,.slice (some ⟨w.heap.size,0,none⟩) (N 0) (N 0)),(179,.int .i64 0),(178,.slice (some ⟨w.heap.size,0,none⟩) (N 0) (N 0)),(175,.tuple #[.slice (some ⟨w.heap.size,0,none⟩) (N 0) (N 0),.int .i64 0]),(177,.tuple #[.slice (some ⟨w.heap.size,0,none⟩) (N 0) (N 0),.int .i64 0]),(176,.pointer (some ⟨b.bl,0,none⟩)),(5,vo),(8,.pointer (some ⟨b.bl,0,none⟩)),(12,vd),(17,vs),(26,vt),(27,v1),(28,v2)] a)=>?_)
 refine Br.liv_region_end ?_
 replace hA:Lvs 211 [(5,vo),(8,.pointer (some ⟨b.bl,0,none⟩)),(12,vd),(17,vs),(26,vt),(27,v1),(28,v2),(29,.slice (some ⟨w.heap.size,0,none⟩) (N 0) (N 0)),(30,.int .i64 0)] a:=hA.sub (fun p hp=>by
  simp only [List.mem_cons,List.not_mem_nil,or_false] at hp
  rcases hp with rfl|rfl|rfl|rfl|rfl|rfl|rfl|rfl|rfl<;>rfl)
 exact hn a _ hG hrow hA
set_option maxRecDepth 100000 in
theorem cn_25 {l:List OpD}{w:World}{Stop:Goroutine→World→Prop}{vc vk vl vb vd vp v1:Value}{a:Act}(hA:Lvs 211 [(2,vc),(5,.bool true),(6,vk),(8,vl),(11,vb),(12,vd),(13,vp),(14,v1),(15,.int .i64 0)] a)(k:List Item)(cs:List Frame)
  (hn:∀ a',Lvs 211 [(2,vc),(5,.bool true),(6,vk),(8,vl),(11,vb),(12,vd),(13,vp),(14,v1)] a'→Liv Tryd.prog true true (sfO l) Stop (G ((base 6).at a' k) cs) w) :
  Liv Tryd.prog true true (sfO l) Stop (G ((base 6).at a (.code (rg 25)::k)) cs) w:=by
 refine lw_region (n:=25) (m:=0) (il:=[0,1,2,3,4,5]) (by kernel_rfl) ?_
 refine lw_val (v:=.bool true) hA rfl (wanted_none rfl) (by decide) (by kernel_rfl) rfl (by decide) (fun d=>run_move rfl (hA.get rfl)) (fun a (hA:Lvs 211 [(101,.bool true),(2,vc),(5,.bool true),(6,vk),(8,vl),(11,vb),(12,vd),(13,vp),(14,v1),(15,.int .i64 0)] a)=>?_)
 refine lw_val (v:=.bool true) hA rfl (wanted_none rfl) (by decide) (by kernel_rfl) rfl (by decide) (fun d=>run_move rfl (hA.get rfl)) (fun a (hA:Lvs 211 [(102,.bool true),(101,.bool true),(2,vc),(5,.bool true),(6,vk),(8,vl),(11,vb),(12,vd),(13,vp),(14,v1),(15,.int .i64 0)] a)=>?_)
 refine lw_val (v:=.int .i64 0) hA rfl ((hA.wanted (x:=true) rfl rfl rfl rfl).trans rfl) (by decide) (by kernel_rfl) rfl (by decide) (fun d=>run_move rfl (hA.get rfl)) (fun a (hA:Lvs 211 [(103,.int .i64 0),(102,.bool true),(101,.bool true),(2,vc),(5,.bool true),(6,vk),(8,vl),(11,vb),(12,vd),(13,vp),(14,v1),(15,.int .i64 0)] a)=>?_)
 obtain ⟨o,ho,hop,hd,hg⟩:∃ o,(cnOps 25)[3]?=some o∧o.op=.binOp .eql 26 (.tmp 103) (.const (.int .i64 0)) 26∧o.dst=some 104∧o.guard=some (1,true):=⟨_,rfl,rfl,rfl,rfl⟩
 have e103:=hA.get (t:=103) rfl
 refine lw_val (v:=.bool true) hA ho ((hA.wanted (x:=true) hg rfl rfl rfl).trans rfl) (by decide) (by rw [hop];rfl) hd (by decide) (fun d=>by unfold execOp;simp only [hop,e103];go_simp) (fun a (hA:Lvs 211 [(104,.bool true),(103,.int .i64 0),(102,.bool true),(101,.bool true),(2,vc),(5,.bool true),(6,vk),(8,vl),(11,vb),(12,vd),(13,vp),(14,v1),(15,.int .i64 0)] a)=>?_)
 clear ho hop hd hg e103
 obtain ⟨o,ho,hop,hd,hg⟩:∃ o,(cnOps 25)[4]?=some o∧o.op=.pick (.tmp 102) (.tmp 104) (.const (.bool false))∧o.dst=some 105∧o.guard=none:=⟨_,rfl,rfl,rfl,rfl⟩
 have e102:=hA.get (t:=102) rfl
 have e104:=hA.get (t:=104) rfl
 refine lw_val (v:=.bool true) hA ho (wanted_none hg) (by decide) (by rw [hop];rfl) hd (by decide) (fun d=>by unfold execOp;simp only [hop,e102,e104];go_simp) (fun a (hA:Lvs 211 [(105,.bool true),(104,.bool true),(103,.int .i64 0),(102,.bool true),(101,.bool true),(2,vc),(5,.bool true),(6,vk),(8,vl),(11,vb),(12,vd),(13,vp),(14,v1),(15,.int .i64 0)] a)=>?_)
 clear ho hop hd hg e102 e104
 refine lw_val (v:=.bool true) hA rfl (wanted_none rfl) (by decide) (by kernel_rfl) rfl (by decide) (fun d=>run_assign rfl (hA.get rfl)) (fun a (hA:Lvs 211 [(5,.bool true),(105,.bool true),(104,.bool true),(103,.int .i64 0),(102,.bool true),(101,.bool true),(2,vc),(6,vk),(8,vl),(11,vb),(12,vd),(13,vp),(14,v1),(15,.int .i64 0)] a)=>?_)
 refine Br.liv_region_end ?_
 replace hA:Lvs 211 [(2,vc),(5,.bool true),(6,vk),(8,vl),(11,vb),(12,vd),(13,vp),(14,v1)] a:=hA.sub (fun p hp=>by
  simp only [List.mem_cons,List.not_mem_nil,or_false] at hp
  rcases hp with rfl|rfl|rfl|rfl|rfl|rfl|rfl|rfl<;>rfl)
 exact hn a hA
section
variable {l:List OpD} {main:Bool} {sft:Nat→Nat} {Stop:Goroutine→World→Prop} {b:Frame} {a:Act} {ops:Array Oper} {i:Nat} {o:Oper} {rest:List Nat} {k:List Item} {cs:List Frame} {w:World} {v:Value}
theorem lv_loneV {R:Value→World→World→Prop}(ho:ops[i]?=some o)(hg:o.guard=none)(hk:b.kind≠.early)(hop:Br.okOp Tryd.prog (fun _=>false) [] true o.op=true)(hft:Fit sft w)
  (hv:∀ d v,Lk sft v (w.at d)→∃ x v',(execOp a.eval o).run Tryd.prog v=.ok (.value x) v'∧R x v v')
  (h:∀ d w' x v v',Lk sft v (w.at d)→Lk sft v' w'→Br.Kept sft (w.at d) w'→R x v v'→Liv Tryd.prog main true sft Stop (G (b.at (a.put o.dst x) (.inRegion ops rest::k)) cs) w') :
  Liv Tryd.prog main true sft Stop (G (b.at a (.inRegion ops (i::rest)::k)) cs) w:=fun d0=>by
 refine Br.must_operW ho (wanted_none hg) hk (fun d K' hK=>?_) d0
 have ht:Br.Tame Tryd.prog (true=true) (Br.Comesto (fun f=>(fun _=>false:FuncId→Bool) f=true)) (execOp a.eval o):=Br.t_execOp (P:=Tryd.prog) (S:=fun _=>false) (meths:=[]) (st:=true) id (fun f hf=>by cases hf) (fun m hm=>by cases hm) (fun v=>rfl) (fun f=>rfl) o hop
 have hl:Lk sft (Br.frz sft (w.at d) (w.at d).tape) (w.at d):=Br.lk_frz (w:=w.at d) hft.soft trivial _
 obtain ⟨x,v',hr,hR⟩:=hv d { Br.frz sft (w.at d) (w.at d).tape with drawn:=(w.at d).drawn } ⟨hl.heap,hl.soft,hl.sight,hl.os,hl.output⟩
 have hl':Lk sft { Br.frz sft (w.at d) (w.at d).tape with drawn:=(w.at d).drawn } (w.at d):=⟨hl.heap,hl.soft,hl.sight,hl.os,hl.output⟩
 have key:=Br.lk_run (sft:=sft) Tryd.prog (execOp a.eval o) (true=true) _ (v:={ Br.frz sft (w.at d) (w.at d).tape with drawn:=(w.at d).drawn }) (w:=w.at d) #[] ((execOp a.eval o).runT Tryd.prog (w.at d) #[]).1.world.drawn ht hl' (fun _ _ _=>rfl) (by omega)
 have e1:((execOp a.eval o).runT Tryd.prog { Br.frz sft (w.at d) (w.at d).tape with drawn:=(w.at d).drawn } #[]).1=.ok (.value x) v':=by rw [Sem.runT_fst];exact hr
 have e2:((execOp a.eval o).runT Tryd.prog (w.at d) #[]).1=(execOp a.eval o).run Tryd.prog (w.at d):=Sem.runT_fst ..
 have e3:∀ e∈listed Tryd.prog b.fn a o (w.at d),e∈((execOp a.eval o).runT Tryd.prog (w.at d) #[]).2:=fun e he=>Br.mem_seen he
 revert key e1 e2 e3
 generalize (execOp a.eval o).runT Tryd.prog { Br.frz sft (w.at d) (w.at d).tape with drawn:=(w.at d).drawn } #[]=rv
 generalize (execOp a.eval o).runT Tryd.prog (w.at d) #[]=rw'
 intro key e1 e2 e3
 cases key with
 | @ok y v2 w2 es' c hp h1 h2 h3 h4 =>
  obtain ⟨rfl,rfl⟩:=Result.ok.inj e1
  have hD:DL true sft (w.at d) w2 (listed Tryd.prog b.fn a o (w.at d)):=⟨h2,fun e he=>(by
   rcases h3 e (e3 e he) with h|h
   ·simp at h
   ·exact h),h4.all⟩
  rw [← e2]
  have hM:=(h d w2 _ _ _ hl' h1 h2 hR) w2.drawn
  exact hK _ _ ⟨hD,hM⟩
 | panic _ _ _ _=>cases e1
 | lost _=>cases e1
theorem lw_append {sz:Nat}{env:List (Nat × Value)}{D:Nat}{x y:Operand}{t e:TypeId}{ti:TypeInfo}{z V:Value}{bytes m B n1:Nat}{xs:List Value}{u:Value}(hA:Lvs sz env a)(ho:ops[i]?=some o)(hg:o.guard=none)(hk:b.kind≠.early)(hop:o.op=.call { callee:=.builtin .append,args:=#[x,y],argTypes:=#[t,t] })(hok:Br.okOp Tryd.prog (fun _=>false) [] true o.op=true)(hd:o.dst=some D)(hD:D<sz)(hft:Fit (sfO l) w)(hko:KO l w)
  (ex:a.eval x=V)(ey:a.eval y=.slice (some ⟨n1,0,none⟩) 1 1)(ht:Tryd.prog.underlying t=some (.slice e))(hi:Tryd.prog.info? e=some ti)(hz:ti.zero=some z)(h1:ti.size=1)(h2:ti.bytes=bytes)(h3:z.cells.size=1)
  (own:w.ownsRow B e 1 V m xs)(osf:∀ g,V.ownBlock=some g→sfO l g=0)(hn1:w.heap[n1]?=some (.cells #[u] e (0,0)))(nsf:sfO l n1=0)(hu:u.oneCell'=true)(h63:m+1≤maxLen)(hfit:Builtin.nextslicecap (m+1) m*bytes≤281474976710656)(hB:B≤w.heap.size)
  (h:∀ g cap w' a',Lvs sz ((D,.slice (some ⟨g,0,none⟩) (m+1) cap)::env.filter (fun p=>p.1 != D)) a'→w.heap.size≤w'.heap.size→(∀ k,k<w.heap.size→V.ownBlock≠some k→w'.heap[k]?=w.heap[k]?)→w'.ownsRow B e 1 (.slice (some ⟨g,0,none⟩) (m+1) cap) (m+1) (xs ++ [u])→(V.ownBlock=some g∨w.heap.size≤g) →
   Liv Tryd.prog main true (sfO l) Stop (G (b.at a' (.inRegion ops rest::k)) cs) w') :
  Liv Tryd.prog main true (sfO l) Stop (G (b.at a (.inRegion ops (i::rest)::k)) cs) w:=by
 refine lv_loneV (R:=fun r v v'=>∃ g cap,r=.slice (some ⟨g,0,none⟩) (m+1) cap∧v.heap.size≤v'.heap.size∧(∀ k,k<v.heap.size→V.ownBlock≠some k→v'.heap[k]?=v.heap[k]?)∧v'.ownsRow B e 1 (.slice (some ⟨g,0,none⟩) (m+1) cap) (m+1) (xs ++ [u])∧(V.ownBlock=some g∨g=v.heap.size)) ho hg hk hok hft (fun d v hv=>?_) (fun d w2 r v v' hv hl' hkp hR=>?_)
 ·have own1:v.ownsRow B e 1 V m xs:=owns_same own (fun g hg'=>lk_same (w:=w.at d) hv (osf g hg') (.inl (owns_cells own hg')))
  have hn2:v.heap[n1]?=some (.cells #[u] e (0,0)):=by rw [lk_same (w:=w.at d) hv nsf (.inl ⟨_,_,_,hn1⟩)];exact hn1
  have sv:v.heap.size=w.heap.size:=hv.size
  obtain ⟨g,cap,v',hrun,own2,gr2,hg2⟩:=App.run_append_one (P:=Tryd.prog) v B t o.type e ti z 1 bytes ht hi hz h1 h2 h3 V m xs own1 ⟨n1,0,none⟩ 1 [u] rfl (fun j q hq=>by
   rw [Addr.add_mid,Nat.zero_add]
   simp only [World.cell?,hn2]
   simpa using hq) (fun q hq=>by obtain rfl:=List.mem_singleton.1 hq;exact hu) h63 hfit (by omega)
  refine ⟨_,v',?_,g,cap,rfl,gr2.size,fun k hk' hne=>gr2.block k hk' (fun e=>hne e.symm),own2,hg2⟩
  unfold execOp
  simp only [hop,resolve,invoke,builtin,Sem.run_bind,Sem.run_pure,Result.andThen_ok,List.map_toArray,List.map_cons,List.map_nil,ex,ey,hrun]
 ·obtain ⟨g,cap,rfl,r1,r2,r3,r4⟩:=hR
  have sv:v.heap.size=w.heap.size:=hv.size
  have sv':=hl'.size
  have sg:sfO l g=0:=by
   rcases r4 with h|h
   ·exact osf g h
   ·exact Br.sfO_zero fun o ho'=>by have:=Br.KO.lt hko ho';omega
  rw [hd]
  refine h g cap w2 _ (hA.put hD _) (by omega) (fun k hk' hne=>same_block (w:=w.at d) hkp hv hl' (r2 k (by omega) hne)) (owns_same r3 (fun g' hg'=>?_)) (r4.imp id (fun e=>by omega))
  obtain rfl:g=g':=Option.some.inj hg'
  exact (lk_same hl' sg (.inr (owns_cells r3 rfl))).symm
end
end Go.Proofs.YtcgabodkegcpgaaDoor
