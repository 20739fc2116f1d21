/- Cancels: pieces of its second and third loop. No statement of the program is proved here. -/
import Derived.Test.YtcgabodkegcpgaaDoorWkk
namespace Go.Proofs.YtcgabodkegcpgaaDoor
open Go.Conc Go.RowKit
open Br (X OpD KO SO SP sfO Lk Fit Must DL Liv Clear)
set_option linter.unusedVariables false
set_option linter.unusedSimpArgs false
set_option maxHeartbeats 4000000
set_option maxRecDepth 100000 in
theorem cn_22t {l:List OpD}{w:World}{Stop:Goroutine→World→Prop}{cB p n:Nat}{vk vl vb vd:Value}(hc:w.cell? ⟨cB,1,none⟩=some (.int .i64 n))(hp:p<n)(hi:(p:Int)<(n:Int)){a:Act}(hA:Lvs 211 [(2,.pointer (some ⟨cB,0,none⟩)),(5,.bool true),(6,vk),(8,vl),(11,vb),(12,vd),(13,.int .i64 p)] a)(k:List Item)(cs:List Frame)
  (hn:∀ a',Lvs 211 [(2,.pointer (some ⟨cB,0,none⟩)),(5,.bool true),(6,vk),(8,vl),(11,vb),(12,vd),(13,.int .i64 p),(92,.bool true)] a'→Liv Tryd.prog true true (sfO l) Stop (G ((base 6).at a' k) cs) w) :
  Liv Tryd.prog true true (sfO l) Stop (G ((base 6).at a (.code (rg 22)::k)) cs) w:=by
 have c1:∀ d,(w.at d).cell? ⟨cB,1,none⟩=some (.int .i64 n):=fun d=>hc
 refine lw_region (n:=22) (m:=0) (il:=[0,1,2,3]) (by kernel_rfl) ?_
 refine lw_val (v:=.int .i64 p) hA rfl (wanted_none rfl) (by decide) (by kernel_rfl) rfl (by decide) (fun d=>run_move rfl (hA.get rfl)) (fun a (hA:Lvs 211 [(89,.int .i64 p),(2,.pointer (some ⟨cB,0,none⟩)),(5,.bool true),(6,vk),(8,vl),(11,vb),(12,vd),(13,.int .i64 p)] a)=>?_)
 obtain ⟨o,ho,hop,hd,hg⟩:∃ o,(cnOps 22)[1]?=some o∧o.op=.fieldAddr 30 (.tmp 2) 1∧o.dst=some 90∧o.guard=none:=⟨_,rfl,rfl,rfl,rfl⟩
 have e2:=hA.get (t:=2) rfl
 refine lw_val (v:=.pointer (some ⟨cB,1,none⟩)) hA ho (wanted_none hg) (by decide) (by rw [hop];rfl) hd (by decide) (fun d=>by unfold execOp;simp only [hop,e2];go_simp) (fun a (hA:Lvs 211 [(90,.pointer (some ⟨cB,1,none⟩)),(89,.int .i64 p),(2,.pointer (some ⟨cB,0,none⟩)),(5,.bool true),(6,vk),(8,vl),(11,vb),(12,vd),(13,.int .i64 p)] a)=>?_)
 clear ho hop hd hg e2
 obtain ⟨o,ho,hop,hd,hg⟩:∃ o,(cnOps 22)[2]?=some o∧o.op=.load 3 (.tmp 90)∧o.dst=some 91∧o.guard=none:=⟨_,rfl,rfl,rfl,rfl⟩
 have e90:=hA.get (t:=90) rfl
 refine lw_val (v:=.int .i64 n) hA ho (wanted_none hg) (by decide) (by rw [hop];rfl) hd (by decide) (fun d=>by have z0:=c1 d;clear c1;unfold execOp;simp only [hop,e90];go_simp) (fun a (hA:Lvs 211 [(91,.int .i64 n),(90,.pointer (some ⟨cB,1,none⟩)),(89,.int .i64 p),(2,.pointer (some ⟨cB,0,none⟩)),(5,.bool true),(6,vk),(8,vl),(11,vb),(12,vd),(13,.int .i64 p)] a)=>?_)
 clear ho hop hd hg e90
 obtain ⟨o,ho,hop,hd,hg⟩:∃ o,(cnOps 22)[3]?=some o∧o.op=.binOp .lss 3 (.tmp 89) (.tmp 91) 3∧o.dst=some 92∧o.guard=none:=⟨_,rfl,rfl,rfl,rfl⟩
 have e89:=hA.get (t:=89) rfl
 have e91:=hA.get (t:=91) rfl
 refine lw_val (v:=.bool true) hA ho (wanted_none hg) (by decide) (by rw [hop];rfl) hd (by decide) (fun d=>by unfold execOp;simp only [hop,e89,e91];go_simp) (fun a (hA:Lvs 211 [(92,.bool true),(91,.int .i64 n),(90,.pointer (some ⟨cB,1,none⟩)),(89,.int .i64 p),(2,.pointer (some ⟨cB,0,none⟩)),(5,.bool true),(6,vk),(8,vl),(11,vb),(12,vd),(13,.int .i64 p)] a)=>?_)
 clear ho hop hd hg e89 e91
 refine Br.liv_region_end ?_
 replace hA:Lvs 211 [(2,.pointer (some ⟨cB,0,none⟩)),(5,.bool true),(6,vk),(8,vl),(11,vb),(12,vd),(13,.int .i64 p),(92,.bool true)] a:=hA.sub (fun p hp=>by
  simp only [List.mem_cons,List.not_mem_nil,or_false] at hp
  rcases hp with rfl|rfl|rfl|rfl|rfl|rfl|rfl|rfl<;>rfl)
 exact hn a hA
set_option maxRecDepth 100000 in
theorem cn_22f {l:List OpD}{w:World}{Stop:Goroutine→World→Prop}{cB p n:Nat}{vk vl vb vd:Value}(hc:w.cell? ⟨cB,1,none⟩=some (.int .i64 n))(hp:¬ p<n)(hi:¬ (p:Int)<(n:Int)){a:Act}(hA:Lvs 211 [(2,.pointer (some ⟨cB,0,none⟩)),(5,.bool true),(6,vk),(8,vl),(11,vb),(12,vd),(13,.int .i64 p)] a)(k:List Item)(cs:List Frame)
  (hn:∀ a',Lvs 211 [(2,.pointer (some ⟨cB,0,none⟩)),(5,.bool true),(6,vk),(8,vl),(11,vb),(12,vd),(13,.int .i64 p),(92,.bool false)] a'→Liv Tryd.prog true true (sfO l) Stop (G ((base 6).at a' k) cs) w) :
  Liv Tryd.prog true true (sfO l) Stop (G ((base 6).at a (.code (rg 22)::k)) cs) w:=by
 have c1:∀ d,(w.at d).cell? ⟨cB,1,none⟩=some (.int .i64 n):=fun d=>hc
 refine lw_region (n:=22) (m:=0) (il:=[0,1,2,3]) (by kernel_rfl) ?_
 refine lw_val (v:=.int .i64 p) hA rfl (wanted_none rfl) (by decide) (by kernel_rfl) rfl (by decide) (fun d=>run_move rfl (hA.get rfl)) (fun a (hA:Lvs 211 [(89,.int .i64 p),(2,.pointer (some ⟨cB,0,none⟩)),(5,.bool true),(6,vk),(8,vl),(11,vb),(12,vd),(13,.int .i64 p)] a)=>?_)
 obtain ⟨o,ho,hop,hd,hg⟩:∃ o,(cnOps 22)[1]?=some o∧o.op=.fieldAddr 30 (.tmp 2) 1∧o.dst=some 90∧o.guard=none:=⟨_,rfl,rfl,rfl,rfl⟩
 have e2:=hA.get (t:=2) rfl
 refine lw_val (v:=.pointer (some ⟨cB,1,none⟩)) hA ho (wanted_none hg) (by decide) (by rw [hop];rfl) hd (by decide) (fun d=>by unfold execOp;simp only [hop,e2];go_simp) (fun a (hA:Lvs 211 [(90,.pointer (some ⟨cB,1,none⟩)),(89,.int .i64 p),(2,.pointer (some ⟨cB,0,none⟩)),(5,.bool true),(6,vk),(8,vl),(11,vb),(12,vd),(13,.int .i64 p)] a)=>?_)
 clear ho hop hd hg e2
 obtain ⟨o,ho,hop,hd,hg⟩:∃ o,(cnOps 22)[2]?=some o∧o.op=.load 3 (.tmp 90)∧o.dst=some 91∧o.guard=none:=⟨_,rfl,rfl,rfl,rfl⟩
 have e90:=hA.get (t:=90) rfl
 refine lw_val (v:=.int .i64 n) hA ho (wanted_none hg) (by decide) (by rw [hop];rfl) hd (by decide) (fun d=>by have z0:=c1 d;clear c1;unfold execOp;simp only [hop,e90];go_simp) (fun a (hA:Lvs 211 [(91,.int .i64 n),(90,.pointer (some ⟨cB,1,none⟩)),(89,.int .i64 p),(2,.pointer (some ⟨cB,0,none⟩)),(5,.bool true),(6,vk),(8,vl),(11,vb),(12,vd),(13,.int .i64 p)] a)=>?_)
 clear ho hop hd hg e90
 obtain ⟨o,ho,hop,hd,hg⟩:∃ o,(cnOps 22)[3]?=some o∧o.op=.binOp .lss 3 (.tmp 89) (.tmp 91) 3∧o.dst=some 92∧o.guard=none:=⟨_,rfl,rfl,rfl,rfl⟩
 have e89:=hA.get (t:=89) rfl
 have e91:=hA.get (t:=91) rfl
 refine lw_val (v:=.bool false) hA ho (wanted_none hg) (by decide) (by rw [hop];rfl) hd (by decide) (fun d=>by unfold execOp;simp only [hop,e89,e91];go_simp) (fun a (hA:Lvs 211 [(92,.bool false),(91,.int .i64 n),(90,.pointer (some ⟨cB,1,none⟩)),(89,.int .i64 p),(2,.pointer (some ⟨cB,0,none⟩)),(5,.bool true),(6,vk),(8,vl),(11,vb),(12,vd),(13,.int .i64 p)] a)=>?_)
 clear ho hop hd hg e89 e91
 refine Br.liv_region_end ?_
 replace hA:Lvs 211 [(2,.pointer (some ⟨cB,0,none⟩)),(5,.bool true),(6,vk),(8,vl),(11,vb),(12,vd),(13,.int .i64 p),(92,.bool false)] a:=hA.sub (fun p hp=>by
  simp only [List.mem_cons,List.not_mem_nil,or_false] at hp
  rcases hp with rfl|rfl|rfl|rfl|rfl|rfl|rfl|rfl<;>rfl)
 exact hn a hA
set_option maxRecDepth 100000 in
theorem cn_23 {l:List OpD}{w:World}{Stop:Goroutine→World→Prop}{p:Nat}{vc vk vl vb vd:Value}(hp:p<9223372036854775807){a:Act}(hA:Lvs 211 [(2,vc),(5,.bool true),(6,vk),(8,vl),(11,vb),(12,vd),(13,.int .i64 (p:Nat))] a)(k:List Item)(cs:List Frame)
  (hn:∀ a',Lvs 211 [(2,vc),(5,.bool true),(6,vk),(8,vl),(11,vb),(12,vd),(13,.int .i64 ((p+1:Nat):Int))] a'→Liv Tryd.prog true true (sfO l) Stop (G ((base 6).at a' k) cs) w) :
  Liv Tryd.prog true true (sfO l) Stop (G ((base 6).at a (.code (rg 23)::k)) cs) w:=by
 refine lw_region (n:=23) (m:=0) (il:=[0,1,2]) (by kernel_rfl) ?_
 refine lw_val (v:=.int .i64 (p:Nat)) hA rfl (wanted_none rfl) (by decide) (by kernel_rfl) rfl (by decide) (fun d=>run_move rfl (hA.get rfl)) (fun a (hA:Lvs 211 [(93,.int .i64 (p:Nat)),(2,vc),(5,.bool true),(6,vk),(8,vl),(11,vb),(12,vd),(13,.int .i64 (p:Nat))] a)=>?_)
 obtain ⟨o,ho,hop,hd,hg⟩:∃ o,(cnOps 23)[1]?=some o∧o.op=.binOp .add 3 (.tmp 93) (.const (.int .i64 1)) 3∧o.dst=some 94∧o.guard=none:=⟨_,rfl,rfl,rfl,rfl⟩
 have e93:=hA.get (t:=93) rfl
 refine lw_val (v:=.int .i64 ((p+1:Nat):Int)) hA ho (wanted_none hg) (by decide) (by rw [hop];rfl) hd (by decide) (fun d=>by have z0:IntKind.i64.wrap ((p:Int)+1)=((p+1:Nat):Int):=(by rw [IntKind.wrap_i64];omega);unfold execOp;simp only [hop,e93];go_simp) (fun a (hA:Lvs 211 [(94,.int .i64 ((p+1:Nat):Int)),(93,.int .i64 (p:Nat)),(2,vc),(5,.bool true),(6,vk),(8,vl),(11,vb),(12,vd),(13,.int .i64 (p:Nat))] a)=>?_)
 clear ho hop hd hg e93
 refine lw_val (v:=.int .i64 ((p+1:Nat):Int)) hA rfl (wanted_none rfl) (by decide) (by kernel_rfl) rfl (by decide) (fun d=>run_assign rfl (hA.get rfl)) (fun a (hA:Lvs 211 [(13,.int .i64 ((p+1:Nat):Int)),(94,.int .i64 ((p+1:Nat):Int)),(93,.int .i64 (p:Nat)),(2,vc),(5,.bool true),(6,vk),(8,vl),(11,vb),(12,vd)] a)=>?_)
 refine Br.liv_region_end ?_
 replace hA:Lvs 211 [(2,vc),(5,.bool true),(6,vk),(8,vl),(11,vb),(12,vd),(13,.int .i64 ((p+1:Nat):Int))] a:=hA.sub (fun p hp=>by
  simp only [List.mem_cons,List.not_mem_nil,or_false] at hp
  rcases hp with rfl|rfl|rfl|rfl|rfl|rfl|rfl<;>rfl)
 exact hn a hA
set_option maxRecDepth 100000 in
theorem cn_31t {l:List OpD}{w:World}{Stop:Goroutine→World→Prop}{cB p n:Nat}{vk vl vb vd vs:Value}(hc:w.cell? ⟨cB,1,none⟩=some (.int .i64 n))(hp:p<n)(hi:(p:Int)<(n:Int)){a:Act}(hA:Lvs 211 [(2,.pointer (some ⟨cB,0,none⟩)),(5,.bool true),(6,vk),(8,vl),(11,vb),(12,vd),(17,vs),(18,.int .i64 p)] a)(k:List Item)(cs:List Frame)
  (hn:∀ a',Lvs 211 [(2,.pointer (some ⟨cB,0,none⟩)),(5,.bool true),(6,vk),(8,vl),(11,vb),(12,vd),(17,vs),(18,.int .i64 p),(120,.bool true)] a'→Liv Tryd.prog true true (sfO l) Stop (G ((base 6).at a' k) cs) w) :
  Liv Tryd.prog true true (sfO l) Stop (G ((base 6).at a (.code (rg 31)::k)) cs) w:=by
 have c1:∀ d,(w.at d).cell? ⟨cB,1,none⟩=some (.int .i64 n):=fun d=>hc
 refine lw_region (n:=31) (m:=0) (il:=[0,1,2,3]) (by kernel_rfl) ?_
 refine lw_val (v:=.int .i64 p) hA rfl (wanted_none rfl) (by decide) (by kernel_rfl) rfl (by decide) (fun d=>run_move rfl (hA.get rfl)) (fun a (hA:Lvs 211 [(117,.int .i64 p),(2,.pointer (some ⟨cB,0,none⟩)),(5,.bool true),(6,vk),(8,vl),(11,vb),(12,vd),(17,vs),(18,.int .i64 p)] a)=>?_)
 obtain ⟨o,ho,hop,hd,hg⟩:∃ o,(cnOps 31)[1]?=some o∧o.op=.fieldAddr 30 (.tmp 2) 1∧o.dst=some 118∧o.guard=none:=⟨_,rfl,rfl,rfl,rfl⟩
 have e2:=hA.get (t:=2) rfl
 refine lw_val (v:=.pointer (some ⟨cB,1,none⟩)) hA ho (wanted_none hg) (by decide) (by rw [hop];rfl) hd (by decide) (fun d=>by unfold execOp;simp only [hop,e2];go_simp) (fun a (hA:Lvs 211 [(118,.pointer (some ⟨cB,1,none⟩)),(117,.int .i64 p),(2,.pointer (some ⟨cB,0,none⟩)),(5,.bool true),(6,vk),(8,vl),(11,vb),(12,vd),(17,vs),(18,.int .i64 p)] a)=>?_)
 clear ho hop hd hg e2
 obtain ⟨o,ho,hop,hd,hg⟩:∃ o,(cnOps 31)[2]?=some o∧o.op=.load 3 (.tmp 118)∧o.dst=some 119∧o.guard=none:=⟨_,rfl,rfl,rfl,rfl⟩
 have e118:=hA.get (t:=118) rfl
 refine lw_val (v:=.int .i64 n) hA ho (wanted_none hg) (by decide) (by rw [hop];rfl) hd (by decide) (fun d=>by have z0:=c1 d;clear c1;unfold execOp;simp only [hop,e118];go_simp) (fun a (hA:Lvs 211 [(119,.int .i64 n),(118,.pointer (some ⟨cB,1,none⟩)),(117,.int .i64 p),(2,.pointer (some ⟨cB,0,none⟩)),(5,.bool true),(6,vk),(8,vl),(11,vb),(12,vd),(17,vs),(18,.int .i64 p)] a)=>?_)
 clear ho hop hd hg e118
 obtain ⟨o,ho,hop,hd,hg⟩:∃ o,(cnOps 31)[3]?=some o∧o.op=.binOp .lss 3 (.tmp 117) (.tmp 119) 3∧o.dst=some 120∧o.guard=none:=⟨_,rfl,rfl,rfl,rfl⟩
 have e117:=hA.get (t:=117) rfl
 have e119:=hA.get (t:=119) rfl
 refine lw_val (v:=.bool true) hA ho (wanted_none hg) (by decide) (by rw [hop];rfl) hd (by decide) (fun d=>by unfold execOp;simp only [hop,e117,e119];go_simp) (fun a (hA:Lvs 211 [(120,.bool true),(119,.int .i64 n),(118,.pointer (some ⟨cB,1,none⟩)),(117,.int .i64 p),(2,.pointer (some ⟨cB,0,none⟩)),(5,.bool true),(6,vk),(8,vl),(11,vb),(12,vd),(17,vs),(18,.int .i64 p)] a)=>?_)
 clear ho hop hd hg e117 e119
 refine Br.liv_region_end ?_
 replace hA:Lvs 211 [(2,.pointer (some ⟨cB,0,none⟩)),(5,.bool true),(6,vk),(8,vl),(11,vb),(12,vd),(17,vs),(18,.int .i64 p),(120,.bool true)] a:=hA.sub (fun p hp=>by
  simp only [List.mem_cons,List.not_mem_nil,or_false] at hp
  rcases hp with rfl|rfl|rfl|rfl|rfl|rfl|rfl|rfl|rfl<;>rfl)
 exact hn a hA
set_option maxRecDepth 100000 in
theorem cn_31f {l:List OpD}{w:World}{Stop:Goroutine→World→Prop}{cB p n:Nat}{vk vl vb vd vs:Value}(hc:w.cell? ⟨cB,1,none⟩=some (.int .i64 n))(hp:¬ p<n)(hi:¬ (p:Int)<(n:Int)){a:Act}(hA:Lvs 211 [(2,.pointer (some ⟨cB,0,none⟩)),(5,.bool true),(6,vk),(8,vl),(11,vb),(12,vd),(17,vs),(18,.int .i64 p)] a)(k:List Item)(cs:List Frame)
  (hn:∀ a',Lvs 211 [(2,.pointer (some ⟨cB,0,none⟩)),(5,.bool true),(6,vk),(8,vl),(11,vb),(12,vd),(17,vs),(18,.int .i64 p),(120,.bool false)] a'→Liv Tryd.prog true true (sfO l) Stop (G ((base 6).at a' k) cs) w) :
  Liv Tryd.prog true true (sfO l) Stop (G ((base 6).at a (.code (rg 31)::k)) cs) w:=by
 have c1:∀ d,(w.at d).cell? ⟨cB,1,none⟩=some (.int .i64 n):=fun d=>hc
 refine lw_region (n:=31) (m:=0) (il:=[0,1,2,3]) (by kernel_rfl) ?_
 refine lw_val (v:=.int .i64 p) hA rfl (wanted_none rfl) (by decide) (by kernel_rfl) rfl (by decide) (fun d=>run_move rfl (hA.get rfl)) (fun a (hA:Lvs 211 [(117,.int .i64 p),(2,.pointer (some ⟨cB,0,none⟩)),(5,.bool true),(6,vk),(8,vl),(11,vb),(12,vd),(17,vs),(18,.int .i64 p)] a)=>?_)
 obtain ⟨o,ho,hop,hd,hg⟩:∃ o,(cnOps 31)[1]?=some o∧o.op=.fieldAddr 30 (.tmp 2) 1∧o.dst=some 118∧o.guard=none:=⟨_,rfl,rfl,rfl,rfl⟩
 have e2:=hA.get (t:=2) rfl
 refine lw_val (v:=.pointer (some ⟨cB,1,none⟩)) hA ho (wanted_none hg) (by decide) (by rw [hop];rfl) hd (by decide) (fun d=>by unfold execOp;simp only [hop,e2];go_simp) (fun a (hA:Lvs 211 [(118,.pointer (some ⟨cB,1,none⟩)),(117,.int .i64 p),(2,.pointer (some ⟨cB,0,none⟩)),(5,.bool true),(6,vk),(8,vl),(11,vb),(12,vd),(17,vs),(18,.int .i64 p)] a)=>?_)
 clear ho hop hd hg e2
 obtain ⟨o,ho,hop,hd,hg⟩:∃ o,(cnOps 31)[2]?=some o∧o.op=.load 3 (.tmp 118)∧o.dst=some 119∧o.guard=none:=⟨_,rfl,rfl,rfl,rfl⟩
 have e118:=hA.get (t:=118) rfl
 refine lw_val (v:=.int .i64 n) hA ho (wanted_none hg) (by decide) (by rw [hop];rfl) hd (by decide) (fun d=>by have z0:=c1 d;clear c1;unfold execOp;simp only [hop,e118];go_simp) (fun a (hA:Lvs 211 [(119,.int .i64 n),(118,.pointer (some ⟨cB,1,none⟩)),(117,.int .i64 p),(2,.pointer (some ⟨cB,0,none⟩)),(5,.bool true),(6,vk),(8,vl),(11,vb),(12,vd),(17,vs),(18,.int .i64 p)] a)=>?_)
 clear ho hop hd hg e118
 obtain ⟨o,ho,hop,hd,hg⟩:∃ o,(cnOps 31)[3]?=some o∧o.op=.binOp .lss 3 (.tmp 117) (.tmp 119) 3∧o.dst=some 120∧o.guard=none:=⟨_,rfl,rfl,rfl,rfl⟩
 have e117:=hA.get (t:=117) rfl
 have e119:=hA.get (t:=119) rfl
 refine lw_val (v:=.bool false) hA ho (wanted_none hg) (by decide) (by rw [hop];rfl) hd (by decide) (fun d=>by unfold execOp;simp only [hop,e117,e119];go_simp) (fun a (hA:Lvs 211 [(120,.bool false),(119,.int .i64 n),(118,.pointer (some ⟨cB,1,none⟩)),(117,.int .i64 p),(2,.pointer (some ⟨cB,0,none⟩)),(5,.bool true),(6,vk),(8,vl),(11,vb),(12,vd),(17,vs),(18,.int .i64 p)] a)=>?_)
 clear ho hop hd hg e117 e119
 refine Br.liv_region_end ?_
 replace hA:Lvs 211 [(2,.pointer (some ⟨cB,0,none⟩)),(5,.bool true),(6,vk),(8,vl),(11,vb),(12,vd),(17,vs),(18,.int .i64 p),(120,.bool false)] a:=hA.sub (fun p hp=>by
  simp only [List.mem_cons,List.not_mem_nil,or_false] at hp
  rcases hp with rfl|rfl|rfl|rfl|rfl|rfl|rfl|rfl|rfl<;>rfl)
 exact hn a hA
set_option maxRecDepth 100000 in
theorem cn_32 {l:List OpD}{w:World}{Stop:Goroutine→World→Prop}{p:Nat}{vc vk vl vb vd vs:Value}(hp:p<9223372036854775807){a:Act}(hA:Lvs 211 [(2,vc),(5,.bool true),(6,vk),(8,vl),(11,vb),(12,vd),(17,vs),(18,.int .i64 (p:Nat))] a)(k:List Item)(cs:List Frame)
  (hn:∀ a',Lvs 211 [(2,vc),(5,.bool true),(6,vk),(8,vl),(11,vb),(12,vd),(17,vs),(18,.int .i64 ((p+1:Nat):Int))] a'→Liv Tryd.prog true true (sfO l) Stop (G ((base 6).at a' k) cs) w) :
  Liv Tryd.prog true true (sfO l) Stop (G ((base 6).at a (.code (rg 32)::k)) cs) w:=by
 refine lw_region (n:=32) (m:=0) (il:=[0,1,2]) (by kernel_rfl) ?_
 refine lw_val (v:=.int .i64 (p:Nat)) hA rfl (wanted_none rfl) (by decide) (by kernel_rfl) rfl (by decide) (fun d=>run_move rfl (hA.get rfl)) (fun a (hA:Lvs 211 [(121,.int .i64 (p:Nat)),(2,vc),(5,.bool true),(6,vk),(8,vl),(11,vb),(12,vd),(17,vs),(18,.int .i64 (p:Nat))] a)=>?_)
 obtain ⟨o,ho,hop,hd,hg⟩:∃ o,(cnOps 32)[1]?=some o∧o.op=.binOp .add 3 (.tmp 121) (.const (.int .i64 1)) 3∧o.dst=some 122∧o.guard=none:=⟨_,rfl,rfl,rfl,rfl⟩
 have e121:=hA.get (t:=121) rfl
 refine lw_val (v:=.int .i64 ((p+1:Nat):Int)) hA ho (wanted_none hg) (by decide) (by rw [hop];rfl) hd (by decide) (fun d=>by have z0:IntKind.i64.wrap ((p:Int)+1)=((p+1:Nat):Int):=(by rw [IntKind.wrap_i64];omega);unfold execOp;simp only [hop,e121];go_simp) (fun a (hA:Lvs 211 [(122,.int .i64 ((p+1:Nat):Int)),(121,.int .i64 (p:Nat)),(2,vc),(5,.bool true),(6,vk),(8,vl),(11,vb),(12,vd),(17,vs),(18,.int .i64 (p:Nat))] a)=>?_)
 clear ho hop hd hg e121
 refine lw_val (v:=.int .i64 ((p+1:Nat):Int)) hA rfl (wanted_none rfl) (by decide) (by kernel_rfl) rfl (by decide) (fun d=>run_assign rfl (hA.get rfl)) (fun a (hA:Lvs 211 [(18,.int .i64 ((p+1:Nat):Int)),(122,.int .i64 ((p+1:Nat):Int)),(121,.int .i64 (p:Nat)),(2,vc),(5,.bool true),(6,vk),(8,vl),(11,vb),(12,vd),(17,vs)] a)=>?_)
 refine Br.liv_region_end ?_
 replace hA:Lvs 211 [(2,vc),(5,.bool true),(6,vk),(8,vl),(11,vb),(12,vd),(17,vs),(18,.int .i64 ((p+1:Nat):Int))] a:=hA.sub (fun p hp=>by
  simp only [List.mem_cons,List.not_mem_nil,or_false] at hp
  rcases hp with rfl|rfl|rfl|rfl|rfl|rfl|rfl|rfl<;>rfl)
 exact hn a hA
theorem dn_info:∃ i z,Tryd.prog.info? 65=some i∧i.zero=some z∧i.size=1∧i.bytes=24∧z.cells.size=1:=by
 have h:(Tryd.prog.info? 65).map (fun i=>(i.size,i.bytes,i.zero.map (·.cells.size)))=some (1,24,some 1):=by kernel_rfl
 obtain ⟨i,hi,hb⟩:=Option.map_eq_some_iff.1 h
 obtain ⟨h1,h2,h3⟩:i.size=1∧i.bytes=24∧i.zero.map (·.cells.size)=some 1:=by
  injection hb with a b
  injection b with b c
  exact ⟨a,b,c⟩
 obtain ⟨z,hz,hc⟩:=Option.map_eq_some_iff.1 h3
 exact ⟨i,z,hi,hz,h1,h2,hc⟩
set_option maxRecDepth 100000 in
theorem cn_26 {l:List OpD}{w:World}{Stop:Goroutine→World→Prop}{vc vk vl vb vp V:Value}{m B d0 c0:Nat}{ad:Option Addr}{xs:List Value}(hft:Fit (sfO l) w)(hko:KO l w)(own:w.ownsRow B 65 1 V m xs)(osf:∀ g,V.ownBlock=some g→sfO l g=0)(hm:m≤32)(hB:B≤w.heap.size){u:Value}(hu:u=.slice ad d0 c0){a:Act}(hA:Lvs 211 [(2,vc),(5,.bool true),(6,vk),(8,vl),(11,vb),(12,V),(13,vp),(14,u)] a)(k:List Item)(cs:List Frame)
  (hn:∀ g cap w' a',Lvs 211 [(2,vc),(5,.bool true),(6,vk),(8,vl),(11,vb),(13,vp),(12,.slice (some ⟨g,0,none⟩) (m+1) cap)] a'→w.heap.size≤w'.heap.size→(∀ k,k<w.heap.size→V.ownBlock≠some k→w'.heap[k]?=w.heap[k]?)→w'.ownsRow B 65 1 (.slice (some ⟨g,0,none⟩) (m+1) cap) (m+1) (xs ++ [u])→(V.ownBlock=some g∨w.heap.size≤g)→Liv Tryd.prog true true (sfO l) Stop (G ((base 6).at a' k) cs) w') :
  Liv Tryd.prog true true (sfO l) Stop (G ((base 6).at a (.code (rg 26)::k)) cs) w:=by
 refine lw_region (n:=26) (m:=0) (il:=[0,1,2,3,4]) (by kernel_rfl) ?_
 refine lw_val (v:=V) hA rfl (wanted_none rfl) (by decide) (by kernel_rfl) rfl (by decide) (fun d=>run_move rfl (hA.get rfl)) (fun a (hA:Lvs 211 [(106,V),(2,vc),(5,.bool true),(6,vk),(8,vl),(11,vb),(12,V),(13,vp),(14,u)] a)=>?_)
 refine lw_val (v:=u) hA rfl (wanted_none rfl) (by decide) (by kernel_rfl) rfl (by decide) (fun d=>run_move rfl (hA.get rfl)) (fun a (hA:Lvs 211 [(107,u),(106,V),(2,vc),(5,.bool true),(6,vk),(8,vl),(11,vb),(12,V),(13,vp),(14,u)] a)=>?_)
 have e107:=hA.get (t:=107) rfl
 obtain ⟨o',ho,hop,hd,hg⟩:∃ o',(cnOps 26)[2]?=some o'∧o'.op=.buildSlice 64 1 #[(0,.tmp 107)]∧o'.dst=some 108∧o'.guard=none:=⟨_,rfl,rfl,rfl,rfl⟩
 refine lw_made (ob:=.cells #[u] 65 (0,0)) (v:=.slice (some ⟨w.heap.size,0,none⟩) 1 1) hA ho hg (by decide) hd (by decide) (fun d=>by subst hu;unfold execOp;simp only [hop,List.map_toArray,List.map_cons,List.map_nil,e107];go_simp) (fun d=>by subst hu;unfold execOp;simp only [hop,List.map_toArray,List.map_cons,List.map_nil,e107];simp [go_sem]) trivial (fun a (hA:Lvs 211 [(108,.slice (some ⟨w.heap.size,0,none⟩) 1 1),(107,u),(106,V),(2,vc),(5,.bool true),(6,vk),(8,vl),(11,vb),(12,V),(13,vp),(14,u)] a)=>?_)
 clear ho hop hd hg e107
 have hG1:=grown_alloc (w:=w) trivial (ob:=.cells #[u] 65 (0,0)) trivial
 have hX:=heap_alloc_new w (.cells #[u] 65 (0,0))
 have hs1:(w.alloc (.cells #[u] 65 (0,0))).heap.size=w.heap.size+1:=by simp
 generalize w.alloc (.cells #[u] 65 (0,0))=w1 at *
 have hft1:Fit (sfO l) w1:=⟨fun j hj=>by
  obtain ⟨c,t,hc⟩:=hft.soft j hj
  exact ⟨c,t,by rw [hG1.old j (Array.getElem?_eq_some_iff.1 hc).1];exact hc⟩,trivial⟩
 have hko1:KO l w1:=fun o ho=>by
  obtain ⟨c,t,h0,h1⟩:=hko o ho
  exact ⟨c,t,by rw [hG1.old _ (Br.KO.lt hko ho)];exact h0,h1⟩
 have own1:w1.ownsRow B 65 1 V m xs:=owns_same own (fun g hg=>hG1.old g (owns_lt own hg).2)
 obtain ⟨ti,z,y1,y2,y3,y4,y5⟩:=dn_info
 have e106:=hA.get (t:=106) rfl
 have e108:=hA.get (t:=108) rfl
 obtain ⟨o',ho,hop,hd,hg⟩:∃ o',(cnOps 26)[3]?=some o'∧o'.op=.call { callee:=.builtin .append,args:=#[.tmp 106,.tmp 108],argTypes:=#[64,64] }∧o'.dst=some 109∧o'.guard=none:=⟨_,rfl,rfl,rfl,rfl⟩
 refine lw_append hA ho hg (by decide) hop (by rw [hop];rfl) hd (by decide) hft1 hko1 e106 e108 Tryd.underlying64 y1 y2 y3 y4 y5 own1 osf hX (Br.sfO_zero fun o ho=>by have:=Br.KO.lt hko ho;omega) (by subst hu;rfl) (by simp only [maxLen];omega) (by
  have:m=0∨m=1∨m=2∨m=3∨m=4∨m=5∨m=6∨m=7∨m=8∨m=9∨m=10∨m=11∨m=12∨m=13∨m=14∨m=15∨m=16∨m=17∨m=18∨m=19∨m=20∨m=21∨m=22∨m=23∨m=24∨m=25∨m=26∨m=27∨m=28∨m=29∨m=30∨m=31∨m=32:=by omega
  rcases this with rfl|rfl|rfl|rfl|rfl|rfl|rfl|rfl|rfl|rfl|rfl|rfl|rfl|rfl|rfl|rfl|rfl|rfl|rfl|rfl|rfl|rfl|rfl|rfl|rfl|rfl|rfl|rfl|rfl|rfl|rfl|rfl|rfl<;>decide) (by omega) (fun g cap w2 a hA q1 q2 q3 q4=>?_)
 clear ho hop hd hg e106 e108
 replace hA:Lvs 211 [(109,.slice (some ⟨g,0,none⟩) (m+1) cap),(108,.slice (some ⟨w.heap.size,0,none⟩) 1 1),(107,u),(106,V),(2,vc),(5,.bool true),(6,vk),(8,vl),(11,vb),(12,V),(13,vp),(14,u)] a:=hA
 refine lw_val (v:=.slice (some ⟨g,0,none⟩) (m+1) cap) hA rfl (wanted_none rfl) (by decide) (by kernel_rfl) rfl (by decide) (fun d=>run_assign rfl (hA.get rfl)) (fun a (hA:Lvs 211 [(12,.slice (some ⟨g,0,none⟩) (m+1) cap),(109,.slice (some ⟨g,0,none⟩) (m+1) cap),(108,.slice (some ⟨w.heap.size,0,none⟩) 1 1),(107,u),(106,V),(2,vc),(5,.bool true),(6,vk),(8,vl),(11,vb),(13,vp),(14,u)] a)=>?_)
 refine Br.liv_region_end ?_
 replace hA:Lvs 211 [(2,vc),(5,.bool true),(6,vk),(8,vl),(11,vb),(13,vp),(12,.slice (some ⟨g,0,none⟩) (m+1) cap)] a:=hA.sub (fun p hp=>by
  simp only [List.mem_cons,List.not_mem_nil,or_false] at hp
  rcases hp with rfl|rfl|rfl|rfl|rfl|rfl|rfl<;>rfl)
 exact hn g cap w2 a hA (by omega) (fun j hj hne=>(q2 j (by omega) hne).trans (hG1.old j hj)) q3 (q4.imp id (fun h=>by omega))
structure DN (ws w:World) (N:Nat→Nat) (Xs:Nat→List Value) (p:Nat) (V:Value) (dn:List Value):Prop where
 own:w.ownsRow ws.heap.size 65 1 V p dn
 row:∀ q,q<p→∃ d,dn[q]?=some (.slice (some ⟨d,0,none⟩) (N q) (N q))∧ws.heap.size≤d∧V.ownBlock≠some d∧w.rowIs d 70 (N q*5) (fun j=>(Xs q).getD j (.bool false))
set_option maxRecDepth 100000 in
theorem cn_loop2 {kb:Kb}{l:List OpD}{K:Ker}{L:Nat→Option Lv}{r:Nat}{Inb:Nat→Option Seat}{nG:Nat}{ws:World}{b:Lb}{n B0 cB:Nat}{U:Nat→Option OpD}{V':Nat→Value}{N:Nat→Nat}{Xs:Nat→List Value}{Stop:Goroutine→World→Prop}{vk vb:Value}(co:Co kb l K L r Inb nG ws)(lm:LibM0 kb l L ws b n B0 U V' N Xs)(hN:∀ p,p<n→N p≤4398046511104)(hx:∀ p,p<n→∀ x∈Xs p,x.oneCell'=true)(hc:ws.cell? ⟨cB,1,none⟩=some (.int .i64 n))(k:List Item)(cs:List Frame)
  (hdone:∀ w a V dn,Grown ws w→DN ws w N Xs n V dn→Lvs 211 [(2,.pointer (some ⟨cB,0,none⟩)),(5,.bool true),(6,vk),(8,.pointer (some ⟨b.bl,0,none⟩)),(11,vb),(12,V)] a→Liv Tryd.prog true true (sfO l) Stop (G ((base 6).at a k) cs) w) :
  ∀ m p,m+p=n→∀ w a V dn,Grown ws w→DN ws w N Xs p V dn→Lvs 211 [(2,.pointer (some ⟨cB,0,none⟩)),(5,.bool true),(6,vk),(8,.pointer (some ⟨b.bl,0,none⟩)),(11,vb),(12,V),(13,.int .i64 p)] a→Liv Tryd.prog true true (sfO l) Stop (G ((base 6).at a (.code cnLoop2::.inLoop cnLoop2::.inBlock 3::k)) cs) w:=by
 have h6:n≤6:=lm.is.small
 have lcB:cB<ws.heap.size:=cell_lt hc
 have cw:∀ w,Grown ws w→w.cell? ⟨cB,1,none⟩=some (.int .i64 n):=fun w hG=>(World.cell?_of_block (w:=ws) (a:=⟨cB,1,none⟩) (hG.old _ lcB)).trans hc
 intro m
 induction m with
 | zero =>
  intro p hp w a V dn hG hD hA
  obtain rfl:p=n:=by omega
  unfold cnLoop2
  refine Br.liv_seq ?_
  refine Br.liv_seq ?_
  refine cn_22f (cw w hG) (by omega) (by omega) hA _ cs (fun a hA=>?_)
  refine Br.liv_cond (t:=false) (hA.get rfl) ?_
  refine Br.liv_exit (k':=k) (by rfl) ?_
  exact hdone w a V dn hG hD (hA.sub (fun p hp=>by
   simp only [List.mem_cons,List.not_mem_nil,or_false] at hp
   rcases hp with rfl|rfl|rfl|rfl|rfl|rfl<;>rfl))
 | succ m ih =>
  intro p hp w a V dn hG hD hA
  have hlt:p<n:=by omega
  have hge:∀ g,V.ownBlock=some g→ws.heap.size≤g∧g<w.heap.size:=fun g hg=>owns_lt hD.own hg
  have enter:∀ {g:Goroutine},g=G ((base 6).at a (.code (.seq (.seq (rg 22) (.cond (.tmp 92) .skip (.exit 3))) (.seq (.block 4 (.seq (rg 24) (.seq (rg 25) (rg 26)))) (rg 23)))::.inLoop cnLoop2::.inBlock 3::k)) cs→Liv Tryd.prog true true (sfO l) Stop g w→Liv Tryd.prog true true (sfO l) Stop (G ((base 6).at a (.code cnLoop2::.inLoop cnLoop2::.inBlock 3::k)) cs) w:=fun e h=>by
   subst e;exact h
  refine enter rfl ?_
  clear enter
  refine Br.liv_seq ?_
  refine Br.liv_seq ?_
  refine cn_22t (cw w hG) (by omega) (by omega) hA _ cs (fun a hA=>?_)
  refine Br.liv_cond (t:=true) (hA.get rfl) ?_
  refine Br.liv_skip ?_
  refine Br.liv_seq ?_
  refine Br.liv_block ?_
  refine Br.liv_seq ?_
  have hA1:=hA.sub (env':=[(2,.pointer (some ⟨cB,0,none⟩)),(5,.bool true),(6,vk),(8,.pointer (some ⟨b.bl,0,none⟩)),(11,vb),(12,V),(13,.int .i64 p)]) (fun p hp=>by
   simp only [List.mem_cons,List.not_mem_nil,or_false] at hp
   rcases hp with rfl|rfl|rfl|rfl|rfl|rfl|rfl<;>rfl)
  refine cn_24 (co.grown hG) (lm.grown hG) hlt (hN p hlt) (hx p hlt) hA1 _ cs (fun a w1 hG1 hrow hA=>?_)
  refine Br.liv_seq ?_
  refine cn_25 hA _ cs (fun a hA=>?_)
  have co1:=co.grown (hG.trans hG1)
  have own1:w1.ownsRow ws.heap.size 65 1 V p dn:=owns_same hD.own (fun g hg=>hG1.old g (hge g hg).2)
  refine cn_26 co1.env.fit co1.env.ko own1 (fun g hg=>Br.sfO_zero fun o ho=>by have:=Br.KO.lt co.env.ko ho;have:=hge g hg;omega) (by omega) (by have:=(hG.trans hG1).size;omega) rfl hA _ cs (fun g cap w2 a hA q1 q2 q3 q4=>?_)
  have s1:=hG.size
  have s2:=hG1.size
  have hG2:Grown ws w2:=⟨by omega,fun j hj=>by
   rw [q2 j (by omega) (fun e=>by have:=hge j e;omega)]
   exact (hG.trans hG1).old j hj,trivial⟩
  have lrow:=row_lt hrow
  refine Br.liv_inBlock ?_
  refine cn_23 (p:=p) (by omega) (hA.sub (fun p hp=>by
   simp only [List.mem_cons,List.not_mem_nil,or_false] at hp
   rcases hp with rfl|rfl|rfl|rfl|rfl|rfl|rfl<;>rfl)) _ cs (fun a hA=>?_)
  refine Br.liv_inLoop ?_
  refine ih (p+1) (by omega) w2 a _ _ hG2 ⟨q3,fun q hq=>?_⟩ hA
  have hlen:dn.length=p:=by have:=hD.own.1;omega
  have gne:∀ d,d<w1.heap.size→V.ownBlock≠some d→(Value.slice (some ⟨g,0,none⟩) (p+1) cap).ownBlock≠some d:=fun d hd hne e=>by
   obtain rfl:g=d:=Option.some.inj e
   rcases q4 with h|h
   ·exact hne h
   ·omega
  by_cases e:q<p
  ·obtain ⟨d,d1,d2,d3,d4⟩:=hD.row q e
   have ld:=row_lt d4
   refine ⟨d,by rw [List.getElem?_append_left (by omega)];exact d1,d2,gne d (by omega) d3,(d4.of_block (hG1.old d ld)).of_block (q2 d (by omega) d3)⟩
  ·obtain rfl:q=p:=by omega
   have hne:V.ownBlock≠some w.heap.size:=fun e=>by have:=hge _ e;omega
   exact ⟨w.heap.size,by rw [List.getElem?_append_right (by omega),hlen];simp,s1,gne _ (by omega) hne,hrow.of_block (q2 _ (by omega) hne)⟩
end Go.Proofs.YtcgabodkegcpgaaDoor
