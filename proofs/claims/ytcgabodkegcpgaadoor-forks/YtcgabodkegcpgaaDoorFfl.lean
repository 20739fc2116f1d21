/- Forks: the child is looked at: the pieces. -/
import Derived.Test.YtcgabodkegcpgaaDoorFfj
set_option linter.unusedVariables false
set_option linter.unusedSimpArgs false
set_option maxHeartbeats 20000000
set_option maxRecDepth 100000
namespace Go.Proofs.YtcgabodkegcpgaaDoor
open Go.Conc Go.RowKit
open Br (X OpD KO SO SP sfO Lk Fit Must DL Liv Clear)
theorem c1s {l:List OpD}{Stop:Goroutine->World->Prop}{w:World}{vc vk vl:Value}(hft:Fit (sfO l) w)(hko:KO l w){K:Ker}{b1 b2 bd cB nF n gF gS gD nD':Nat}{nD:Int}(h2:2<=n)(hC:w.heap[cB]?=some (.cells #[.int .i64 nF,.int .i64 n,.int .i64 nD] 30 (0,0)))(hD:w.heap[bd]?=some (.cells #[.int .i64 1,.int .i64 0,.int .i64 0,.int .i64 0,.int .i64 1] 70 (0,0)))(hS:w.heap[b2]?=some (.cells #[.slice (some ⟨gF,0,none⟩) nF nF,.slice (some ⟨gS,0,none⟩) n n,.slice (some ⟨gD,0,none⟩) nD' nD'] 45 (0,0)))(r0:w.rangeAt gS 0 (cut (o0 K) 0 20))(r1:w.rangeAt gS 20 (cut (o0 K) 20 20))(hlt:gS<w.heap.size)(hlt2:b2<w.heap.size)(hlt3:bd<w.heap.size){a:Act}(hA:Lvs 418 [(4,vc),(5,.pointer (some ⟨cB,0,none⟩)),(12,vk),(14,vl),(24,.pointer (some ⟨b1,0,none⟩)),(25,.pointer (some ⟨bd,0,none⟩)),(26,.bool true),(27,.pointer (some ⟨b2,0,none⟩))] a)(k:List Item)(cs:List Frame)
  (hn:∀ a' w',Grown w w'->w'.heap[w.heap.size]?=some (.cells (cut (o0 K) 0 20).toArray 55 (0,0))->w'.heap[w.heap.size+1]?=some (.cells (cut (o0 K) 20 20).toArray 55 (0,0))->Lvs 418 [(4,vc),(5,.pointer (some ⟨cB,0,none⟩)),(12,vk),(14,vl),(24,.pointer (some ⟨b1,0,none⟩)),(25,.pointer (some ⟨bd,0,none⟩)),(26,.bool true),(27,.pointer (some ⟨b2,0,none⟩)),(29,.pointer (some ⟨w.heap.size,0,none⟩)),(30,.pointer (some ⟨w.heap.size+1,0,none⟩))] a'->FL l Stop a' (.code (.seq (.seq (.region 42 (n6 42) true) (.cond (.tmp 281) (P2 43) .skip)) (.seq (.seq (rf 44) (.block 6 (.loop L3))) W6))::k) cs w') :
  FL l Stop a (.code X1::k) cs w:=by
 have cc:∀ d,(w.at d).cell? ⟨cB,0,none⟩=some (.int .i64 nF)/\(w.at d).cell? ⟨cB,1,none⟩=some (.int .i64 n):=λd=>by refine ⟨?_,?_⟩<;>(show w.cell? _=_;simp [World.cell?,hC])
 have cd:∀ d,(w.at d).cell? ⟨bd,3,none⟩=some (.int .i64 0)/\(w.at d).cell? ⟨bd,4,none⟩=some (.int .i64 1):=λd=>by refine ⟨?_,?_⟩<;>(show w.cell? _=_;simp [World.cell?,hD])
 have cs2:∀ d,(w.at d).cell? ⟨b2,0,none⟩=some (.slice (some ⟨gF,0,none⟩) nF nF)/\(w.at d).cell? ⟨b2,1,none⟩=some (.slice (some ⟨gS,0,none⟩) n n):=λd=>by refine ⟨?_,?_⟩<;>(show w.cell? _=_;simp [World.cell?,hS])
 unfold X1;refine Br.b8 ?_;refine Br.b8 ?_;refine g9 (ops:=n6 38) (n:=38) (il:=[0,1,2,3,4,5,6,7,8,9,10,11,12,13,14,15,16,17,18,19,20,21,22,23,24,25,26,27,28,29,30,31,32,33,34]) (by kernel_rfl) ?_;refine ns 3 hA rfl (λa hA=>?_);refine v6 (v:=.pointer (some ⟨bd,3,none⟩)) (op:=.fieldAddr 70 (.tmp 25) 1) hA rfl rfl rfl rfl rfl rfl rfl rfl rfl rfl rfl (λo hop d=>by unfold execOp;simp only [hop,hA.g 25 rfl];go_simp) (λa hA=>?_);refine v6 (v:=.int .i64 0) (op:=.load 26 (.tmp 217)) hA rfl rfl rfl rfl rfl rfl rfl rfl rfl rfl rfl (λo hop d=>by have z0:=(cd d).1;unfold execOp;simp only [hop,hA.g 217 rfl];go_simp) (λa hA=>?_);refine v6 (v:=.bool false) (op:=.binOp .neq 26 (.tmp 218) (.const (.int .i64 0)) 26) hA rfl rfl rfl rfl rfl rfl rfl (by kernel_rfl) rfl rfl rfl (λo hop d=>by unfold execOp;simp only [hop,hA.g 218 rfl];go_simp) (λa hA=>?_);refine ns 2 hA rfl (λa hA=>?_);refine v6 (v:=.pointer (some ⟨bd,4,none⟩)) (op:=.fieldAddr 70 (.tmp 25) 2) hA rfl rfl rfl rfl rfl rfl rfl rfl rfl rfl rfl (λo hop d=>by unfold execOp;simp only [hop,hA.g 25 rfl];go_simp) (λa hA=>?_);refine v6 (v:=.int .i64 1) (op:=.load 3 (.tmp 222)) hA rfl rfl rfl rfl rfl rfl rfl rfl rfl rfl rfl (λo hop d=>by have z0:=(cd d).2;unfold execOp;simp only [hop,hA.g 222 rfl];go_simp) (λa hA=>?_);refine v6 (v:=.bool false) (op:=.binOp .lss 3 (.tmp 223) (.const (.int .i64 1)) 3) hA rfl rfl rfl rfl rfl rfl rfl rfl rfl rfl rfl (λo hop d=>by unfold execOp;simp only [hop,hA.g 223 rfl];go_simp) (λa hA=>?_);refine ns 2 hA rfl (λa hA=>?_);refine v6 (v:=.pointer (some ⟨bd,4,none⟩)) (op:=.fieldAddr 70 (.tmp 25) 2) hA rfl rfl rfl rfl rfl rfl rfl rfl rfl rfl rfl (λo hop d=>by unfold execOp;simp only [hop,hA.g 25 rfl];go_simp) (λa hA=>?_);refine v6 (v:=.int .i64 1) (op:=.load 3 (.tmp 227)) hA rfl rfl rfl rfl rfl rfl rfl rfl rfl rfl rfl (λo hop d=>by have z0:=(cd d).2;unfold execOp;simp only [hop,hA.g 227 rfl];go_simp) (λa hA=>?_);refine v6 (v:=.pointer (some ⟨cB,1,none⟩)) (op:=.fieldAddr 30 (.tmp 5) 1) hA rfl rfl rfl rfl rfl rfl rfl rfl rfl rfl rfl (λo hop d=>by unfold execOp;simp only [hop,hA.g 5 rfl];go_simp) (λa hA=>?_);refine v6 (v:=.int .i64 n) (op:=.load 3 (.tmp 229)) hA rfl rfl rfl rfl rfl rfl rfl rfl rfl rfl rfl (λo hop d=>by have z0:=(cc d).2;unfold execOp;simp only [hop,hA.g 229 rfl];go_simp) (λa hA=>?_);refine v6 (v:=.bool false) (op:=.binOp .geq 3 (.tmp 228) (.tmp 230) 3) hA rfl rfl rfl rfl rfl rfl rfl (by kernel_rfl) rfl rfl rfl (λo hop d=>by have z0:¬ (n:Int)<=1:=(by omega);unfold execOp;simp only [hop,hA.g 228 rfl,hA.g 230 rfl];go_simp) (λa hA=>?_);refine ns 2 hA rfl (λa hA=>?_);refine v6 (v:=.pointer (some ⟨b2,1,none⟩)) (op:=.fieldAddr 45 (.tmp 27) 1) hA rfl rfl rfl rfl rfl rfl rfl rfl rfl rfl rfl (λo hop d=>by unfold execOp;simp only [hop,hA.g 27 rfl];go_simp) (λa hA=>?_);refine v6 (v:=.slice (some ⟨gS,0,none⟩) n n) (op:=.load 42 (.tmp 234)) hA rfl rfl rfl rfl rfl rfl rfl rfl rfl rfl rfl (λo hop d=>by have z0:=(cs2 d).2;unfold execOp;simp only [hop,hA.g 234 rfl];go_simp) (λa hA=>?_);refine nlg hA rfl rfl rfl rfl rfl rfl rfl Tryd.underlying42 rfl rfl rfl rfl (λa hA=>?_)
 refine v6 (v:=.pointer (some ⟨cB,1,none⟩)) (op:=.fieldAddr 30 (.tmp 5) 1) hA rfl rfl rfl rfl rfl rfl rfl rfl rfl rfl rfl (λo hop d=>by unfold execOp;simp only [hop,hA.g 5 rfl];go_simp) (λa hA=>?_);refine v6 (v:=.int .i64 n) (op:=.load 3 (.tmp 237)) hA rfl rfl rfl rfl rfl rfl rfl rfl rfl rfl rfl (λo hop d=>by have z0:=(cc d).2;unfold execOp;simp only [hop,hA.g 237 rfl];go_simp) (λa hA=>?_);refine v6 (v:=.bool false) (op:=.binOp .neq 3 (.tmp 236) (.tmp 238) 3) hA rfl rfl rfl rfl rfl rfl rfl (by kernel_rfl) rfl rfl rfl (λo hop d=>by unfold execOp;simp only [hop,hA.g 236 rfl,hA.g 238 rfl];go_simp) (λa hA=>?_);refine ns 2 hA rfl (λa hA=>?_);refine v6 (v:=.pointer (some ⟨b2,0,none⟩)) (op:=.fieldAddr 45 (.tmp 27) 0) hA rfl rfl rfl rfl rfl rfl rfl rfl rfl rfl rfl (λo hop d=>by unfold execOp;simp only [hop,hA.g 27 rfl];go_simp) (λa hA=>?_);refine v6 (v:=.slice (some ⟨gF,0,none⟩) nF nF) (op:=.load 41 (.tmp 242)) hA rfl rfl rfl rfl rfl rfl rfl rfl rfl rfl rfl (λo hop d=>by have z0:=(cs2 d).1;unfold execOp;simp only [hop,hA.g 242 rfl];go_simp) (λa hA=>?_);refine nlg hA rfl rfl rfl rfl rfl rfl rfl Tryd.underlying41 rfl rfl rfl rfl (λa hA=>?_);refine v6 (v:=.pointer (some ⟨cB,0,none⟩)) (op:=.fieldAddr 30 (.tmp 5) 0) hA rfl rfl rfl rfl rfl rfl rfl rfl rfl rfl rfl (λo hop d=>by unfold execOp;simp only [hop,hA.g 5 rfl];go_simp) (λa hA=>?_);refine v6 (v:=.int .i64 nF) (op:=.load 3 (.tmp 245)) hA rfl rfl rfl rfl rfl rfl rfl rfl rfl rfl rfl (λo hop d=>by have z0:=(cc d).1;unfold execOp;simp only [hop,hA.g 245 rfl];go_simp) (λa hA=>?_);refine v6 (v:=.bool false) (op:=.binOp .neq 3 (.tmp 244) (.tmp 246) 3) hA rfl rfl rfl rfl rfl rfl rfl (by kernel_rfl) rfl rfl rfl (λo hop d=>by unfold execOp;simp only [hop,hA.g 244 rfl,hA.g 246 rfl];go_simp) (λa hA=>?_);refine ns 1 hA rfl (λa hA=>?_);refine Br.a9 ?_;refine Br.t7 (t:=false) (hA.get rfl) ?_;refine Br.l9 ?_;refine Br.b8 ?_;refine g9 (ops:=n6 40) (n:=40) (il:=[0,1,2,3,4,5]) (by kernel_rfl) ?_;refine nop (v:=.pointer (some ⟨b2,1,none⟩)) (op:=.fieldAddr 45 (.tmp 27) 1) hA rfl rfl rfl rfl rfl rfl rfl (λo hop d=>by unfold execOp;simp only [hop,hA.g 27 rfl];go_simp) (λa hA=>?_);refine nop (v:=.slice (some ⟨gS,0,none⟩) n n) (op:=.load 42 (.tmp 249)) hA rfl rfl rfl rfl rfl rfl rfl (λo hop d=>by have z0:=(cs2 d).2;unfold execOp;simp only [hop,hA.g 249 rfl];go_simp) (λa hA=>?_);refine nop (v:=.pointer (some ⟨gS,0,none⟩)) (op:=.indexAddr 42 (.tmp 250) (.const (.int .i64 0))) hA rfl rfl rfl rfl rfl rfl rfl (λo hop d=>by have z0:(0:Int)<(n:Int):=(by omega);unfold execOp;simp only [hop,hA.g 250 rfl];go_simp;try (intro h;omega)) (λa hA=>?_);refine b2E (ops:=n6 40) (i:=3) (p:=251) (y:=252) (D:=29) (env':=[(29,.pointer (some ⟨w.heap.size,0,none⟩)),(4,vc),(5,.pointer (some ⟨cB,0,none⟩)),(12,vk),(14,vl),(24,.pointer (some ⟨b1,0,none⟩)),(25,.pointer (some ⟨bd,0,none⟩)),(26,.bool true),(27,.pointer (some ⟨b2,0,none⟩))]) hft hko ⟨_,rfl,rfl,rfl,rfl⟩ ⟨_,rfl,rfl,rfl,rfl⟩ ⟨_,rfl,rfl,rfl,rfl⟩ r0 hA (by simp) (by decide) (λx hx=>?_) (λa w1 hG1 hX1 hz1 hA=>?_)
 ·simp only [List.mem_cons,List.not_mem_nil,or_false] at hx;rcases hx with rfl|rfl|rfl|rfl|rfl|rfl|rfl|rfl|rfl<;>simp
 have cd1:∀ d,(w1.at d).cell? ⟨bd,4,none⟩=some (.int .i64 1):=λd=>by show w1.cell? _=_;simp [World.cell?,(hG1.old _ hlt3).trans hD]
 have cs1:∀ d,(w1.at d).cell? ⟨b2,1,none⟩=some (.slice (some ⟨gS,0,none⟩) n n):=λd=>by show w1.cell? _=_;simp [World.cell?,(hG1.old _ hlt2).trans hS]
 have hft1:Fit (sfO l) w1:=⟨λj hj=>by
  obtain ⟨c,t,hc⟩:=hft.soft j hj
  exact ⟨c,t,by rw [hG1.old j (Array.getElem?_eq_some_iff.1 hc).1];exact hc⟩,trivial⟩
 have hko1:KO l w1:=λo ho=>by
  obtain ⟨c,t,h1,h2⟩:=hko o ho;exact ⟨c,t,(hG1.old _ (Array.getElem?_eq_some_iff.1 h1).1).trans h1,h2⟩
 have r1':w1.rangeAt gS 20 (cut (o0 K) 20 20):=a5q r1 (hG1.old _ hlt);refine Br.b8 ?_;refine g9 (ops:=n6 41) (n:=41) (il:=[0,1,2,3,4,5,6,7]) (by kernel_rfl) ?_;refine nop (v:=.pointer (some ⟨b2,1,none⟩)) (op:=.fieldAddr 45 (.tmp 27) 1) hA rfl rfl rfl rfl rfl rfl rfl (λo hop d=>by unfold execOp;simp only [hop,hA.g 27 rfl];go_simp) (λa hA=>?_);refine nop (v:=.slice (some ⟨gS,0,none⟩) n n) (op:=.load 42 (.tmp 253)) hA rfl rfl rfl rfl rfl rfl rfl (λo hop d=>by have z0:=cs1 d;unfold execOp;simp only [hop,hA.g 253 rfl];go_simp) (λa hA=>?_);refine nop (v:=.pointer (some ⟨bd,4,none⟩)) (op:=.fieldAddr 70 (.tmp 25) 2) hA rfl rfl rfl rfl rfl rfl rfl (λo hop d=>by unfold execOp;simp only [hop,hA.g 25 rfl];go_simp) (λa hA=>?_);refine nop (v:=.int .i64 1) (op:=.load 3 (.tmp 255)) hA rfl rfl rfl rfl rfl rfl rfl (λo hop d=>by have z0:=cd1 d;unfold execOp;simp only [hop,hA.g 255 rfl];go_simp) (λa hA=>?_);refine nop (v:=.pointer (some ⟨gS,20,none⟩)) (op:=.indexAddr 42 (.tmp 254) (.tmp 256)) hA rfl rfl rfl rfl rfl rfl rfl (λo hop d=>by have z0:(1:Int)<(n:Int):=(by omega);unfold execOp;simp only [hop,hA.g 254 rfl,hA.g 256 rfl];go_simp;try (intro h;omega)) (λa hA=>?_);refine b2E (ops:=n6 41) (i:=5) (p:=257) (y:=258) (D:=30) (env':=[(30,.pointer (some ⟨w1.heap.size,0,none⟩)),(29,.pointer (some ⟨w.heap.size,0,none⟩)),(4,vc),(5,.pointer (some ⟨cB,0,none⟩)),(12,vk),(14,vl),(24,.pointer (some ⟨b1,0,none⟩)),(25,.pointer (some ⟨bd,0,none⟩)),(26,.bool true),(27,.pointer (some ⟨b2,0,none⟩))]) hft1 hko1 ⟨_,rfl,rfl,rfl,rfl⟩ ⟨_,rfl,rfl,rfl,rfl⟩ ⟨_,rfl,rfl,rfl,rfl⟩ r1' hA (by simp) (by decide) (λx hx=>?_) (λa w2 hG2 hX2 hz2 hA=>?_)
 ·simp only [List.mem_cons,List.not_mem_nil,or_false] at hx;rcases hx with rfl|rfl|rfl|rfl|rfl|rfl|rfl|rfl|rfl|rfl<;>simp
 rw [hz1] at hX2 hA;exact hn a w2 (hG1.trans hG2) ((hG2.old _ (by omega)).trans hX1) hX2 (hA.cut ⟨rfl,rfl,rfl,rfl,rfl,rfl,rfl,rfl,rfl,rfl,trivial⟩)
theorem c1t {l:List OpD}{Stop:Goroutine->World->Prop}{w:World}{vc vk vl:Value}{FL1 FL2 S1 S2:List Value}{b1 b2 bd bm bi cB nF n kF kS kD nD':Nat}(h2:2<=n)(hS:w.heap[b1]?=some (.cells #[.slice (some ⟨kF,0,none⟩) nF nF,.slice (some ⟨kS,0,none⟩) n n,.slice (some ⟨kD,0,none⟩) nD' nD'] 45 (0,0)))(c0:w.cell? ⟨bi,0,none⟩=some (.int .i64 2))(c1:w.cell? ⟨bi,1,none⟩=some (.int .i64 0))(r1:w.rangeAt bi 11 FL1)(r2:w.rangeAt bm 11 FL2)(l1:FL1.length=8)(l2:FL2.length=8)(cF:Cmp 53 FL1 FL2 true)(r3:w.rangeAt bm 0 S1)(r4:w.rangeAt kS 0 S2)(l3:S1.length=20)(l4:S2.length=20)(cS:Cmp 55 S1 S2 true){a:Act}(hA:Lvs 418 [(4,vc),(5,.pointer (some ⟨cB,0,none⟩)),(12,vk),(14,vl),(24,.pointer (some ⟨b1,0,none⟩)),(25,.pointer (some ⟨bd,0,none⟩)),(26,.bool true),(27,.pointer (some ⟨b2,0,none⟩)),(29,.pointer (some ⟨bm,0,none⟩)),(30,.pointer (some ⟨bi,0,none⟩))] a)(k:List Item)(cs:List Frame)
  (hn:∀ a',Lvs 418 [(4,vc),(5,.pointer (some ⟨cB,0,none⟩)),(12,vk),(14,vl),(24,.pointer (some ⟨b1,0,none⟩)),(25,.pointer (some ⟨bd,0,none⟩)),(26,.bool true),(27,.pointer (some ⟨b2,0,none⟩)),(29,.pointer (some ⟨bm,0,none⟩)),(30,.pointer (some ⟨bi,0,none⟩)),(31,.int .i64 0)] a'->FL l Stop a' (.code L3::.inLoop L3::.inBlock 6::.code W6::k) cs w) :
  FL l Stop a (.code (.seq (.seq (.region 42 (n6 42) true) (.cond (.tmp 281) (P2 43) .skip)) (.seq (.seq (rf 44) (.block 6 (.loop L3))) W6))::k) cs w:=by
 have cs1:∀ d,(w.at d).cell? ⟨b1,1,none⟩=some (.slice (some ⟨kS,0,none⟩) n n):=λd=>by (show w.cell? _=_;simp [World.cell?,hS])
 refine Br.b8 ?_;refine Br.b8 ?_;refine a3I (ops:=n6 42) (V:=λi=>([.pointer (some ⟨bi,0,none⟩),.int .i64 2,.bool false,.bool false,.pointer (some ⟨bi,1,none⟩),.int .i64 0,.bool false,.bool false,.bool false,.pointer (some ⟨bi,11,none⟩),.agg FL1.toArray,.pointer (some ⟨bm,11,none⟩),.agg FL2.toArray,.bool false,.bool false,.bool false,.agg S1.toArray,.pointer (some ⟨b1,1,none⟩),.slice (some ⟨kS,0,none⟩) n n,.pointer (some ⟨kS,0,none⟩),.agg S2.toArray,.bool false,.bool false]:List Value).getD i undef) (by decide) hA.defers (by kernel_rfl) (by kernel_rfl) (λi a' listed hAg hcl hr=>?_) (λa' listed hAg hall=>?_)
 ·have hlt:i<23:=Br.G8 hr;have R:=λ(j t:Nat) {v:Value} (h:a0F (n6 42) 418 i j t=true) hv=>a4N (v:=v) hA hAg hr h hv;have Bz:=λ(t:Nat) {v:Value} (h:a3n (n6 42) t=true) hv=>a2J (v:=v) hA hAg h hv;have Q:=λ{o:Oper} {j:Nat} {x y:Bool} (t:Nat) (ho:(n6 42)[i]?=some o) (hg:o.guard=some (j,y)) (h:a0F (n6 42) 418 i j t=true) hv=>a3L (x:=x) hA hAg hr ho hg h hv;have S {w:World}:=dS (w:=w) hA hAg hr;rcases (by omega:i=0\/i=1\/i=2\/i=3\/i=4\/i=5\/i=6\/i=7\/i=8\/i=9\/i=10\/i=11\/i=12\/i=13\/i=14\/i=15\/i=16\/i=17\/i=18\/i=19\/i=20\/i=21\/i=22) with rfl|rfl|rfl|rfl|rfl|rfl|rfl|rfl|rfl|rfl|rfl|rfl|rfl|rfl|rfl|rfl|rfl|rfl|rfl|rfl|rfl|rfl|rfl
  ·exact dop (v:=.pointer (some ⟨bi,0,none⟩)) (op:=.fieldAddr 55 (.tmp 30) 0) rfl rfl rfl rfl (λo h d=>by unfold execOp;simp only [h,Bz 30 (by kernel_rfl) rfl];go_simp)
  ·exact dop (v:=.int .i64 2) (op:=.load 3 (.tmp 259)) rfl rfl rfl rfl (λo h d=>by have z0:(w.at d).cell? ⟨bi,0,none⟩=some (.int .i64 2):=c0;unfold execOp;simp only [h,R 0 259 (by kernel_rfl) rfl];go_simp)
  ·exact dop (v:=.bool false) (op:=.binOp .neq 3 (.tmp 260) (.const (.int .i64 2)) 3) rfl rfl rfl (by kernel_rfl) (λo h d=>by unfold execOp;simp only [h,R 1 260 (by kernel_rfl) rfl];go_simp)
  ·exact S (by kernel_rfl)
  ·exact D6 (v:=.pointer (some ⟨bi,1,none⟩)) (op:=.fieldAddr 55 (.tmp 30) 1) rfl ((Q 262 rfl rfl (by kernel_rfl) rfl).trans rfl) rfl rfl (λo h d=>by unfold execOp;simp only [h,Bz 30 (by kernel_rfl) rfl];go_simp)
  ·exact D6 (v:=.int .i64 0) (op:=.load 3 (.tmp 263)) rfl ((Q 262 rfl rfl (by kernel_rfl) rfl).trans rfl) rfl rfl (λo h d=>by have z0:(w.at d).cell? ⟨bi,1,none⟩=some (.int .i64 0):=c1;unfold execOp;simp only [h,R 4 263 (by kernel_rfl) rfl];go_simp)
  ·exact D6 (v:=.bool false) (op:=.binOp .neq 3 (.tmp 264) (.const (.int .i64 0)) 3) rfl ((Q 262 rfl rfl (by kernel_rfl) rfl).trans rfl) rfl (by kernel_rfl) (λo h d=>by unfold execOp;simp only [h,R 5 264 (by kernel_rfl) rfl];go_simp)
  ·exact S (by kernel_rfl)
  ·exact S (by kernel_rfl)
  ·exact D6 (v:=.pointer (some ⟨bi,11,none⟩)) (op:=.fieldAddr 55 (.tmp 30) 4) rfl ((Q 267 rfl rfl (by kernel_rfl) rfl).trans rfl) rfl rfl (λo h d=>by unfold execOp;simp only [h,Bz 30 (by kernel_rfl) rfl];go_simp)
  ·exact D6 (v:=.agg FL1.toArray) (op:=.load 53 (.tmp 268)) rfl ((Q 267 rfl rfl (by kernel_rfl) rfl).trans rfl) rfl rfl (λo h d=>F8 h (R 9 268 (by kernel_rfl) rfl) (show w.rangeAt bi 11 _ from r1) Tryd.underlying53 rfl (by rw [l1];kernel_rfl))
  ·exact D6 (v:=.pointer (some ⟨bm,11,none⟩)) (op:=.fieldAddr 55 (.tmp 29) 4) rfl ((Q 267 rfl rfl (by kernel_rfl) rfl).trans rfl) rfl rfl (λo h d=>by unfold execOp;simp only [h,Bz 29 (by kernel_rfl) rfl];go_simp)
  ·exact D6 (v:=.agg FL2.toArray) (op:=.load 53 (.tmp 270)) rfl ((Q 267 rfl rfl (by kernel_rfl) rfl).trans rfl) rfl rfl (λo h d=>F8 h (R 11 270 (by kernel_rfl) rfl) (show w.rangeAt bm 11 _ from r2) Tryd.underlying53 rfl (by rw [l2];kernel_rfl))
  ·exact D6 (v:=.bool false) (op:=.binOp .neq 53 (.tmp 269) (.tmp 271) 53) rfl ((Q 267 rfl rfl (by kernel_rfl) rfl).trans rfl) rfl (by kernel_rfl) (λo h d=>a5D h (R 10 269 (by kernel_rfl) rfl) (R 12 271 (by kernel_rfl) rfl) (by kernel_rfl) cF)
  ·exact S (by kernel_rfl)
  ·exact S (by kernel_rfl)
  ·exact D6 (v:=.agg S1.toArray) (op:=.load 55 (.tmp 29)) rfl ((Q 274 rfl rfl (by kernel_rfl) rfl).trans rfl) rfl rfl (λo h d=>F8 h (Bz 29 (by kernel_rfl) rfl) (show w.rangeAt bm 0 _ from r3) Tryd.underlying55 rfl (by rw [l3];kernel_rfl))
  ·exact D6 (v:=.pointer (some ⟨b1,1,none⟩)) (op:=.fieldAddr 45 (.tmp 24) 1) rfl ((Q 274 rfl rfl (by kernel_rfl) rfl).trans rfl) rfl rfl (λo h d=>by unfold execOp;simp only [h,Bz 24 (by kernel_rfl) rfl];go_simp)
  ·exact D6 (v:=.slice (some ⟨kS,0,none⟩) n n) (op:=.load 42 (.tmp 276)) rfl ((Q 274 rfl rfl (by kernel_rfl) rfl).trans rfl) rfl rfl (λo h d=>by have z0:=cs1 d;unfold execOp;simp only [h,R 17 276 (by kernel_rfl) rfl];go_simp)
  ·exact D6 (v:=.pointer (some ⟨kS,0,none⟩)) (op:=.indexAddr 42 (.tmp 277) (.const (.int .i64 0))) rfl ((Q 274 rfl rfl (by kernel_rfl) rfl).trans rfl) rfl rfl (λo h d=>by have z0:(0:Int)<(n:Int):=(by omega);unfold execOp;simp only [h,R 18 277 (by kernel_rfl) rfl];go_simp;try (intro h;omega))
  ·exact D6 (v:=.agg S2.toArray) (op:=.load 55 (.tmp 278)) rfl ((Q 274 rfl rfl (by kernel_rfl) rfl).trans rfl) rfl rfl (λo h d=>F8 h (R 19 278 (by kernel_rfl) rfl) (show w.rangeAt kS 0 _ from r4) Tryd.underlying55 rfl (by rw [l4];kernel_rfl))
  ·exact D6 (v:=.bool false) (op:=.binOp .neq 55 (.tmp 275) (.tmp 279) 55) rfl ((Q 274 rfl rfl (by kernel_rfl) rfl).trans rfl) rfl (by kernel_rfl) (λo h d=>a5D h (R 16 275 (by kernel_rfl) rfl) (R 20 279 (by kernel_rfl) rfl) (by kernel_rfl) cS)
  ·exact S (by kernel_rfl)
 ·replace hA:Lvs 418 [(281,.bool false),(4,vc),(5,.pointer (some ⟨cB,0,none⟩)),(12,vk),(14,vl),(24,.pointer (some ⟨b1,0,none⟩)),(25,.pointer (some ⟨bd,0,none⟩)),(26,.bool true),(27,.pointer (some ⟨b2,0,none⟩)),(29,.pointer (some ⟨bm,0,none⟩)),(30,.pointer (some ⟨bi,0,none⟩))] a':=a3J hA hAg hall (λp hp=>by
   simp only [List.mem_cons,List.not_mem_nil,or_false] at hp;rcases hp with rfl|rfl|rfl|rfl|rfl|rfl|rfl|rfl|rfl|rfl|rfl
   ·exact .inl ⟨22,_,rfl,rfl,rfl,by decide⟩
   ·exact .inr ⟨by kernel_rfl,rfl⟩
   ·exact .inr ⟨by kernel_rfl,rfl⟩
   ·exact .inr ⟨by kernel_rfl,rfl⟩
   ·exact .inr ⟨by kernel_rfl,rfl⟩
   ·exact .inr ⟨by kernel_rfl,rfl⟩
   ·exact .inr ⟨by kernel_rfl,rfl⟩
   ·exact .inr ⟨by kernel_rfl,rfl⟩
   ·exact .inr ⟨by kernel_rfl,rfl⟩
   ·exact .inr ⟨by kernel_rfl,rfl⟩
   ·exact .inr ⟨by kernel_rfl,rfl⟩)
  clear hAg hall;refine Br.t7 (t:=false) (hA.get rfl) ?_;refine Br.l9 ?_;refine Br.b8 ?_;refine Br.b8 ?_;refine g9 (ops:=n6 44) (n:=44) (il:=[0]) (by kernel_rfl) ?_;refine ns 1 hA rfl (λa hA=>?_);refine Br.a9 ?_;refine Br.N7 ?_;refine Br.a2m ?_;exact hn a (hA.cut ⟨rfl,rfl,rfl,rfl,rfl,rfl,rfl,rfl,rfl,rfl,rfl,trivial⟩)
theorem c1u {l:List OpD}{Stop:Goroutine->World->Prop}{w:World}{vc vk vl:Value}{b1 b2 bd bm bi cB j:Nat}(hj:j=4){a:Act}(hA:Lvs 418 [(4,vc),(5,.pointer (some ⟨cB,0,none⟩)),(12,vk),(14,vl),(24,.pointer (some ⟨b1,0,none⟩)),(25,.pointer (some ⟨bd,0,none⟩)),(26,.bool true),(27,.pointer (some ⟨b2,0,none⟩)),(29,.pointer (some ⟨bm,0,none⟩)),(30,.pointer (some ⟨bi,0,none⟩)),(31,.int .i64 j)] a)(k:List Item)(cs:List Frame)
  (hn:∀ a',Lvs 418 [(4,vc),(5,.pointer (some ⟨cB,0,none⟩)),(12,vk),(14,vl),(24,.pointer (some ⟨b1,0,none⟩)),(25,.pointer (some ⟨bd,0,none⟩)),(26,.bool true),(27,.pointer (some ⟨b2,0,none⟩))] a'->FL l Stop a' (.code W6::k) cs w) :
  FL l Stop a (.code L3::.inLoop L3::.inBlock 6::.code W6::k) cs w:=by
 unfold L3;refine Br.b8 ?_;refine Br.b8 ?_;refine g9 (ops:=n6 45) (n:=45) (il:=[0,1]) (by kernel_rfl) ?_;refine ns 1 hA rfl (λa hA=>?_);refine nop (v:=.bool false) (op:=.binOp .lss 3 (.tmp 282) (.const (.int .i64 4)) 3) hA rfl rfl rfl rfl rfl rfl rfl (λo hop d=>by have z0:¬ (j:Int)<4:=(by omega);unfold execOp;simp only [hop,hA.g 282 rfl];go_simp) (λa hA=>?_);refine Br.a9 ?_;refine Br.t7 (t:=false) (hA.get rfl) ?_;refine Br.a0e (k':=.code W6::k) (by rfl) ?_;exact hn a (hA.cut ⟨rfl,rfl,rfl,rfl,rfl,rfl,rfl,rfl,trivial⟩)
theorem c0b {l:List OpD}{Stop:Goroutine->World->Prop}{w:World}{vc vk vl:Value}{b1 b2 bd bm bi cB nF n j:Nat}{f g nD:Int}{x b:Bool}(hj:j<4)(hC:w.heap[cB]?=some (.cells #[.int .i64 nF,.int .i64 n,.int .i64 nD] 30 (0,0)))(hf:decide (0<=f)=b)(hg:decide (0<=g)=b)(hf2:f<nF)(hg2:g<nF)(c1:w.cell? ⟨bm,3+j*2,none⟩=some (.int .i64 f))(c2:w.cell? ⟨bi,3+j*2,none⟩=some (.int .i64 g))(c3:w.cell? ⟨bm,3+j*2+1,none⟩=some (.bool x))(c4:w.cell? ⟨bi,3+j*2+1,none⟩=some (.bool x)){a:Act}(hA:Lvs 418 [(4,vc),(5,.pointer (some ⟨cB,0,none⟩)),(12,vk),(14,vl),(24,.pointer (some ⟨b1,0,none⟩)),(25,.pointer (some ⟨bd,0,none⟩)),(26,.bool true),(27,.pointer (some ⟨b2,0,none⟩)),(29,.pointer (some ⟨bm,0,none⟩)),(30,.pointer (some ⟨bi,0,none⟩)),(31,.int .i64 j)] a)(k:List Item)(cs:List Frame)
  (hn:∀ a',Lvs 418 [(4,vc),(5,.pointer (some ⟨cB,0,none⟩)),(12,vk),(14,vl),(24,.pointer (some ⟨b1,0,none⟩)),(25,.pointer (some ⟨bd,0,none⟩)),(26,.bool true),(27,.pointer (some ⟨b2,0,none⟩)),(29,.pointer (some ⟨bm,0,none⟩)),(30,.pointer (some ⟨bi,0,none⟩)),(31,.int .i64 j),(32,.int .i64 f),(33,.int .i64 g)] a'->FL l Stop a' (.code (.seq (.region 51 (n6 51) true) (.cond (.tmp 360) (P2 52) .skip))::.inBlock 7::.code (rf 46)::.inLoop L3::.inBlock 6::.code W6::k) cs w) :
  FL l Stop a (.code L3::.inLoop L3::.inBlock 6::.code W6::k) cs w:=by
 have j0:(0:Int)<=(j:Int):=by omega
 have j1:(j:Int)<4:=by omega
 have cc:∀ d,(w.at d).cell? ⟨cB,0,none⟩=some (.int .i64 nF):=λd=>by (show w.cell? _=_;simp [World.cell?,hC])
 unfold L3;refine Br.b8 ?_;refine Br.b8 ?_;refine g9 (ops:=n6 45) (n:=45) (il:=[0,1]) (by kernel_rfl) ?_;refine ns 1 hA rfl (λa hA=>?_);refine nop (v:=.bool true) (op:=.binOp .lss 3 (.tmp 282) (.const (.int .i64 4)) 3) hA rfl rfl rfl rfl rfl rfl rfl (λo hop d=>by unfold execOp;simp only [hop,hA.g 282 rfl];go_simp) (λa hA=>?_);refine Br.a9 ?_;refine Br.t7 (t:=true) (hA.get rfl) ?_;refine Br.l9 ?_;refine Br.b8 ?_;refine Br.N7 ?_;refine Br.b8 ?_;refine g9 (ops:=n6 47) (n:=47) (il:=[0,1,2,3,4,5]) (by kernel_rfl) ?_;refine ns 1 hA rfl (λa hA=>?_);refine nop (v:=.pointer (some ⟨bm,3,none⟩)) (op:=.fieldAddr 55 (.tmp 29) 3) hA rfl rfl rfl rfl rfl rfl rfl (λo hop d=>by unfold execOp;simp only [hop,hA.g 29 rfl];go_simp) (λa hA=>?_);refine nop (v:=.pointer (some ⟨bm,3+j*2,none⟩)) (op:=.indexAddr 50 (.tmp 287) (.tmp 286)) hA rfl rfl rfl rfl rfl rfl rfl (λo hop d=>by unfold execOp;simp only [hop,hA.g 286 rfl,hA.g 287 rfl];go_simp) (λa hA=>?_);refine nop (v:=.pointer (some ⟨bm,3+j*2,none⟩)) (op:=.fieldAddr 49 (.tmp 288) 0) hA rfl rfl rfl rfl rfl rfl rfl (λo hop d=>by unfold execOp;simp only [hop,hA.g 288 rfl];go_simp) (λa hA=>?_);refine nop (v:=.int .i64 f) (op:=.load 3 (.tmp 289)) hA rfl rfl rfl rfl rfl rfl rfl (λo hop d=>by have z0:(w.at d).cell? ⟨bm,3+j*2,none⟩=some (.int .i64 f):=c1;unfold execOp;simp only [hop,hA.g 289 rfl];go_simp) (λa hA=>?_);refine ns 1 hA rfl (λa hA=>?_);refine Br.a9 ?_;replace hA:=hA.low 42 rfl;refine Br.b8 ?_;refine g9 (ops:=n6 48) (n:=48) (il:=[0,1,2,3,4,5]) (by kernel_rfl) ?_;refine ns 1 hA rfl (λa hA=>?_);refine nop (v:=.pointer (some ⟨bi,3,none⟩)) (op:=.fieldAddr 55 (.tmp 30) 3) hA rfl rfl rfl rfl rfl rfl rfl (λo hop d=>by unfold execOp;simp only [hop,hA.g 30 rfl];go_simp) (λa hA=>?_);refine nop (v:=.pointer (some ⟨bi,3+j*2,none⟩)) (op:=.indexAddr 50 (.tmp 292) (.tmp 291)) hA rfl rfl rfl rfl rfl rfl rfl (λo hop d=>by unfold execOp;simp only [hop,hA.g 291 rfl,hA.g 292 rfl];go_simp) (λa hA=>?_);refine nop (v:=.pointer (some ⟨bi,3+j*2,none⟩)) (op:=.fieldAddr 49 (.tmp 293) 0) hA rfl rfl rfl rfl rfl rfl rfl (λo hop d=>by unfold execOp;simp only [hop,hA.g 293 rfl];go_simp) (λa hA=>?_);refine nop (v:=.int .i64 g) (op:=.load 3 (.tmp 294)) hA rfl rfl rfl rfl rfl rfl rfl (λo hop d=>by have z0:(w.at d).cell? ⟨bi,3+j*2,none⟩=some (.int .i64 g):=c2;unfold execOp;simp only [hop,hA.g 294 rfl];go_simp) (λa hA=>?_);refine ns 1 hA rfl (λa hA=>?_);refine Br.a9 ?_;replace hA:=hA.low 42 rfl;refine Br.b8 ?_;refine Br.b8 ?_;refine a3I (ops:=n6 49) (V:=λi=>([.int .i64 f,.bool b,.int .i64 g,.bool b,.bool false,.bool false,.int .i64 f,.pointer (some ⟨cB,0,none⟩),.int .i64 nF,.bool false,.bool false,.bool false,.int .i64 g,.pointer (some ⟨cB,0,none⟩),.int .i64 nF,.bool false,.bool false,.bool false,.int .i64 j,.pointer (some ⟨bm,3,none⟩),.pointer (some ⟨bm,3+j*2,none⟩),.pointer (some ⟨bm,3+j*2+1,none⟩),.bool x,.int .i64 j,.pointer (some ⟨bi,3,none⟩),.pointer (some ⟨bi,3+j*2,none⟩),.pointer (some ⟨bi,3+j*2+1,none⟩),.bool x,.bool false,.bool false]:List Value).getD i undef) (by decide) hA.defers (by kernel_rfl) (by kernel_rfl) (λi a' listed hAg hcl hr=>?_) (λa' listed hAg hall=>?_)
 ·have hlt:i<30:=Br.G8 hr;have R:=λ(j t:Nat) {v:Value} (h:a0F (n6 49) 418 i j t=true) hv=>a4N (v:=v) hA hAg hr h hv;have Bz:=λ(t:Nat) {v:Value} (h:a3n (n6 49) t=true) hv=>a2J (v:=v) hA hAg h hv;have Q:=λ{o:Oper} {j:Nat} {x y:Bool} (t:Nat) (ho:(n6 49)[i]?=some o) (hg:o.guard=some (j,y)) (h:a0F (n6 49) 418 i j t=true) hv=>a3L (x:=x) hA hAg hr ho hg h hv;have S {w:World}:=dS (w:=w) hA hAg hr;rcases (by omega:i=0\/i=1\/i=2\/i=3\/i=4\/i=5\/i=6\/i=7\/i=8\/i=9\/i=10\/i=11\/i=12\/i=13\/i=14\/i=15\/i=16\/i=17\/i=18\/i=19\/i=20\/i=21\/i=22\/i=23\/i=24\/i=25\/i=26\/i=27\/i=28\/i=29) with rfl|rfl|rfl|rfl|rfl|rfl|rfl|rfl|rfl|rfl|rfl|rfl|rfl|rfl|rfl|rfl|rfl|rfl|rfl|rfl|rfl|rfl|rfl|rfl|rfl|rfl|rfl|rfl|rfl|rfl
  ·exact S (by kernel_rfl)
  ·exact dop (v:=.bool b) (op:=.binOp .geq 3 (.tmp 296) (.const (.int .i64 0)) 3) rfl rfl rfl (by kernel_rfl) (λo h d=>by unfold execOp;simp only [h,R 0 296 (by kernel_rfl) rfl];go_simp;try simp [hf])
  ·exact S (by kernel_rfl)
  ·exact dop (v:=.bool b) (op:=.binOp .geq 3 (.tmp 298) (.const (.int .i64 0)) 3) rfl rfl rfl (by kernel_rfl) (λo h d=>by unfold execOp;simp only [h,R 2 298 (by kernel_rfl) rfl];go_simp;try simp [hg])
  ·exact dop (v:=.bool false) (op:=.binOp .neq 4 (.tmp 297) (.tmp 299) 4) rfl rfl rfl (by kernel_rfl) (λo h d=>by unfold execOp;simp only [h,R 1 297 (by kernel_rfl) rfl,R 3 299 (by kernel_rfl) rfl];go_simp;try simp)
  ·exact S (by kernel_rfl)
  ·exact S (by kernel_rfl)
  ·exact D6 (v:=.pointer (some ⟨cB,0,none⟩)) (op:=.fieldAddr 30 (.tmp 5) 0) rfl ((Q 301 rfl rfl (by kernel_rfl) rfl).trans rfl) rfl rfl (λo h d=>by unfold execOp;simp only [h,Bz 5 (by kernel_rfl) rfl];go_simp)
  ·exact D6 (v:=.int .i64 nF) (op:=.load 3 (.tmp 303)) rfl ((Q 301 rfl rfl (by kernel_rfl) rfl).trans rfl) rfl rfl (λo h d=>by have z0:=cc d;unfold execOp;simp only [h,R 7 303 (by kernel_rfl) rfl];go_simp)
  ·exact D6 (v:=.bool false) (op:=.binOp .geq 3 (.tmp 302) (.tmp 304) 3) rfl ((Q 301 rfl rfl (by kernel_rfl) rfl).trans rfl) rfl (by kernel_rfl) (λo h d=>by have z0:¬ (nF:Int)<=f:=(by omega);unfold execOp;simp only [h,R 6 302 (by kernel_rfl) rfl,R 8 304 (by kernel_rfl) rfl];go_simp)
  ·exact S (by kernel_rfl)
  ·exact S (by kernel_rfl)
  ·exact S (by kernel_rfl)
  ·exact D6 (v:=.pointer (some ⟨cB,0,none⟩)) (op:=.fieldAddr 30 (.tmp 5) 0) rfl ((Q 307 rfl rfl (by kernel_rfl) rfl).trans rfl) rfl rfl (λo h d=>by unfold execOp;simp only [h,Bz 5 (by kernel_rfl) rfl];go_simp)
  ·exact D6 (v:=.int .i64 nF) (op:=.load 3 (.tmp 309)) rfl ((Q 307 rfl rfl (by kernel_rfl) rfl).trans rfl) rfl rfl (λo h d=>by have z0:=cc d;unfold execOp;simp only [h,R 13 309 (by kernel_rfl) rfl];go_simp)
  ·exact D6 (v:=.bool false) (op:=.binOp .geq 3 (.tmp 308) (.tmp 310) 3) rfl ((Q 307 rfl rfl (by kernel_rfl) rfl).trans rfl) rfl (by kernel_rfl) (λo h d=>by have z0:¬ (nF:Int)<=g:=(by omega);unfold execOp;simp only [h,R 12 308 (by kernel_rfl) rfl,R 14 310 (by kernel_rfl) rfl];go_simp)
  ·exact S (by kernel_rfl)
  ·exact S (by kernel_rfl)
  ·exact S (by kernel_rfl)
  ·exact D6 (v:=.pointer (some ⟨bm,3,none⟩)) (op:=.fieldAddr 55 (.tmp 29) 3) rfl ((Q 313 rfl rfl (by kernel_rfl) rfl).trans rfl) rfl rfl (λo h d=>by unfold execOp;simp only [h,Bz 29 (by kernel_rfl) rfl];go_simp)
  ·exact D6 (v:=.pointer (some ⟨bm,3+j*2,none⟩)) (op:=.indexAddr 50 (.tmp 315) (.tmp 314)) rfl ((Q 313 rfl rfl (by kernel_rfl) rfl).trans rfl) rfl rfl (λo h d=>by unfold execOp;simp only [h,R 18 314 (by kernel_rfl) rfl,R 19 315 (by kernel_rfl) rfl];go_simp)
  ·exact D6 (v:=.pointer (some ⟨bm,3+j*2+1,none⟩)) (op:=.fieldAddr 49 (.tmp 316) 1) rfl ((Q 313 rfl rfl (by kernel_rfl) rfl).trans rfl) rfl rfl (λo h d=>by unfold execOp;simp only [h,R 20 316 (by kernel_rfl) rfl];go_simp)
  ·exact D6 (v:=.bool x) (op:=.load 4 (.tmp 317)) rfl ((Q 313 rfl rfl (by kernel_rfl) rfl).trans rfl) rfl rfl (λo h d=>by have z0:(w.at d).cell? ⟨bm,3+j*2+1,none⟩=some (.bool x):=c3;unfold execOp;simp only [h,R 21 317 (by kernel_rfl) rfl];go_simp)
  ·exact S (by kernel_rfl)
  ·exact D6 (v:=.pointer (some ⟨bi,3,none⟩)) (op:=.fieldAddr 55 (.tmp 30) 3) rfl ((Q 313 rfl rfl (by kernel_rfl) rfl).trans rfl) rfl rfl (λo h d=>by unfold execOp;simp only [h,Bz 30 (by kernel_rfl) rfl];go_simp)
  ·exact D6 (v:=.pointer (some ⟨bi,3+j*2,none⟩)) (op:=.indexAddr 50 (.tmp 320) (.tmp 319)) rfl ((Q 313 rfl rfl (by kernel_rfl) rfl).trans rfl) rfl rfl (λo h d=>by unfold execOp;simp only [h,R 23 319 (by kernel_rfl) rfl,R 24 320 (by kernel_rfl) rfl];go_simp)
  ·exact D6 (v:=.pointer (some ⟨bi,3+j*2+1,none⟩)) (op:=.fieldAddr 49 (.tmp 321) 1) rfl ((Q 313 rfl rfl (by kernel_rfl) rfl).trans rfl) rfl rfl (λo h d=>by unfold execOp;simp only [h,R 25 321 (by kernel_rfl) rfl];go_simp)
  ·exact D6 (v:=.bool x) (op:=.load 4 (.tmp 322)) rfl ((Q 313 rfl rfl (by kernel_rfl) rfl).trans rfl) rfl rfl (λo h d=>by have z0:(w.at d).cell? ⟨bi,3+j*2+1,none⟩=some (.bool x):=c4;unfold execOp;simp only [h,R 26 322 (by kernel_rfl) rfl];go_simp)
  ·exact D6 (v:=.bool false) (op:=.binOp .neq 4 (.tmp 318) (.tmp 323) 4) rfl ((Q 313 rfl rfl (by kernel_rfl) rfl).trans rfl) rfl (by kernel_rfl) (λo h d=>by unfold execOp;simp only [h,R 22 318 (by kernel_rfl) rfl,R 27 323 (by kernel_rfl) rfl];go_simp;try simp)
  ·exact S (by kernel_rfl)
 ·replace hA:Lvs 418 [(325,.bool false),(32,.int .i64 f),(33,.int .i64 g),(4,vc),(5,.pointer (some ⟨cB,0,none⟩)),(12,vk),(14,vl),(24,.pointer (some ⟨b1,0,none⟩)),(25,.pointer (some ⟨bd,0,none⟩)),(26,.bool true),(27,.pointer (some ⟨b2,0,none⟩)),(29,.pointer (some ⟨bm,0,none⟩)),(30,.pointer (some ⟨bi,0,none⟩)),(31,.int .i64 j)] a':=a3J hA hAg hall (λp hp=>by
   simp only [List.mem_cons,List.not_mem_nil,or_false] at hp;rcases hp with rfl|rfl|rfl|rfl|rfl|rfl|rfl|rfl|rfl|rfl|rfl|rfl|rfl|rfl
   ·exact .inl ⟨29,_,rfl,rfl,rfl,by decide⟩
   ·exact .inr ⟨by kernel_rfl,rfl⟩
   ·exact .inr ⟨by kernel_rfl,rfl⟩
   ·exact .inr ⟨by kernel_rfl,rfl⟩
   ·exact .inr ⟨by kernel_rfl,rfl⟩
   ·exact .inr ⟨by kernel_rfl,rfl⟩
   ·exact .inr ⟨by kernel_rfl,rfl⟩
   ·exact .inr ⟨by kernel_rfl,rfl⟩
   ·exact .inr ⟨by kernel_rfl,rfl⟩
   ·exact .inr ⟨by kernel_rfl,rfl⟩
   ·exact .inr ⟨by kernel_rfl,rfl⟩
   ·exact .inr ⟨by kernel_rfl,rfl⟩
   ·exact .inr ⟨by kernel_rfl,rfl⟩
   ·exact .inr ⟨by kernel_rfl,rfl⟩)
  clear hAg hall;refine Br.t7 (t:=false) (hA.get rfl) ?_;refine Br.l9 ?_;exact hn a' (hA.cut ⟨rfl,rfl,rfl,rfl,rfl,rfl,rfl,rfl,rfl,rfl,rfl,rfl,rfl,trivial⟩)
theorem c0r {l:List OpD}{Stop:Goroutine->World->Prop}{w:World}{vc vk vl:Value}{b1 b2 bd bm bi cB nF n j gF gS gD kF kS kD nD' nD'' f g:Nat}(hj:j<4){a:Act}(hA:Lvs 418 [(4,vc),(5,.pointer (some ⟨cB,0,none⟩)),(12,vk),(14,vl),(24,.pointer (some ⟨b1,0,none⟩)),(25,.pointer (some ⟨bd,0,none⟩)),(26,.bool true),(27,.pointer (some ⟨b2,0,none⟩)),(29,.pointer (some ⟨bm,0,none⟩)),(30,.pointer (some ⟨bi,0,none⟩)),(31,.int .i64 j),(32,.int .i64 (-1)),(33,.int .i64 (-1))] a)(k:List Item)(cs:List Frame)
  (hn:∀ a',Lvs 418 [(4,vc),(5,.pointer (some ⟨cB,0,none⟩)),(12,vk),(14,vl),(24,.pointer (some ⟨b1,0,none⟩)),(25,.pointer (some ⟨bd,0,none⟩)),(26,.bool true),(27,.pointer (some ⟨b2,0,none⟩)),(29,.pointer (some ⟨bm,0,none⟩)),(30,.pointer (some ⟨bi,0,none⟩)),(31,.int .i64 (((j+1:Nat):Int)))] a'->FL l Stop a' (.code L3::.inLoop L3::.inBlock 6::.code W6::k) cs w) :
  FL l Stop a (.code (.seq (.region 51 (n6 51) true) (.cond (.tmp 360) (P2 52) .skip))::.inBlock 7::.code (rf 46)::.inLoop L3::.inBlock 6::.code W6::k) cs w:=by
 refine Br.b8 ?_;refine a3I (ops:=n6 51) (V:=λi=>([.int .i64 (-1),.bool false,.bool false,undef,undef,undef,undef,undef,undef,undef,undef,undef,undef,undef,undef,undef,undef,undef,undef,undef,undef,undef,undef,undef,undef,undef,undef,undef,undef,undef,undef,undef,undef,undef,.bool false]:List Value).getD i undef) (by decide) hA.defers (by kernel_rfl) (by kernel_rfl) (λi a' listed hAg hcl hr=>?_) (λa' listed hAg hall=>?_)
 ·have hlt:i<35:=Br.G8 hr;have R:=λ(j t:Nat) {v:Value} (h:a0F (n6 51) 418 i j t=true) hv=>a4N (v:=v) hA hAg hr h hv;have Bz:=λ(t:Nat) {v:Value} (h:a3n (n6 51) t=true) hv=>a2J (v:=v) hA hAg h hv;have S {w:World}:=dS (w:=w) hA hAg hr;rcases (by omega:i=0\/i=1\/i=2\/i=3\/i=4\/i=5\/i=6\/i=7\/i=8\/i=9\/i=10\/i=11\/i=12\/i=13\/i=14\/i=15\/i=16\/i=17\/i=18\/i=19\/i=20\/i=21\/i=22\/i=23\/i=24\/i=25\/i=26\/i=27\/i=28\/i=29\/i=30\/i=31\/i=32\/i=33\/i=34) with rfl|rfl|rfl|rfl|rfl|rfl|rfl|rfl|rfl|rfl|rfl|rfl|rfl|rfl|rfl|rfl|rfl|rfl|rfl|rfl|rfl|rfl|rfl|rfl|rfl|rfl|rfl|rfl|rfl|rfl|rfl|rfl|rfl|rfl|rfl
  ·exact S (by kernel_rfl)
  ·exact dop (v:=.bool false) (op:=.binOp .geq 3 (.tmp 326) (.const (.int .i64 0)) 3) rfl rfl rfl (by kernel_rfl) (λo h d=>by unfold execOp;simp only [h,R 0 326 (by kernel_rfl) rfl];go_simp)
  ·exact S (by kernel_rfl)
  ·exact S (by kernel_rfl)
  ·exact S (by kernel_rfl)
  ·exact S (by kernel_rfl)
  ·exact S (by kernel_rfl)
  ·exact S (by kernel_rfl)
  ·exact S (by kernel_rfl)
  ·exact S (by kernel_rfl)
  ·exact S (by kernel_rfl)
  ·exact S (by kernel_rfl)
  ·exact S (by kernel_rfl)
  ·exact S (by kernel_rfl)
  ·exact S (by kernel_rfl)
  ·exact S (by kernel_rfl)
  ·exact S (by kernel_rfl)
  ·exact S (by kernel_rfl)
  ·exact S (by kernel_rfl)
  ·exact S (by kernel_rfl)
  ·exact S (by kernel_rfl)
  ·exact S (by kernel_rfl)
  ·exact S (by kernel_rfl)
  ·exact S (by kernel_rfl)
  ·exact S (by kernel_rfl)
  ·exact S (by kernel_rfl)
  ·exact S (by kernel_rfl)
  ·exact S (by kernel_rfl)
  ·exact S (by kernel_rfl)
  ·exact S (by kernel_rfl)
  ·exact S (by kernel_rfl)
  ·exact S (by kernel_rfl)
  ·exact S (by kernel_rfl)
  ·exact S (by kernel_rfl)
  ·exact S (by kernel_rfl)
 ·replace hA:Lvs 418 [(360,.bool false),(4,vc),(5,.pointer (some ⟨cB,0,none⟩)),(12,vk),(14,vl),(24,.pointer (some ⟨b1,0,none⟩)),(25,.pointer (some ⟨bd,0,none⟩)),(26,.bool true),(27,.pointer (some ⟨b2,0,none⟩)),(29,.pointer (some ⟨bm,0,none⟩)),(30,.pointer (some ⟨bi,0,none⟩)),(31,.int .i64 j)] a':=a3J hA hAg hall (λp hp=>by
   simp only [List.mem_cons,List.not_mem_nil,or_false] at hp;rcases hp with rfl|rfl|rfl|rfl|rfl|rfl|rfl|rfl|rfl|rfl|rfl|rfl
   ·exact .inl ⟨34,_,rfl,rfl,rfl,by decide⟩
   ·exact .inr ⟨by kernel_rfl,rfl⟩
   ·exact .inr ⟨by kernel_rfl,rfl⟩
   ·exact .inr ⟨by kernel_rfl,rfl⟩
   ·exact .inr ⟨by kernel_rfl,rfl⟩
   ·exact .inr ⟨by kernel_rfl,rfl⟩
   ·exact .inr ⟨by kernel_rfl,rfl⟩
   ·exact .inr ⟨by kernel_rfl,rfl⟩
   ·exact .inr ⟨by kernel_rfl,rfl⟩
   ·exact .inr ⟨by kernel_rfl,rfl⟩
   ·exact .inr ⟨by kernel_rfl,rfl⟩
   ·exact .inr ⟨by kernel_rfl,rfl⟩)
  clear hAg hall;refine Br.t7 (t:=false) (hA.get rfl) ?_;refine Br.l9 ?_;refine Br.U3 ?_;refine g9 (ops:=n6 46) (n:=46) (il:=[0,1,2]) (by kernel_rfl) ?_;refine ns 1 hA rfl (λa hA=>?_);refine nop (v:=.int .i64 (((j+1:Nat):Int))) (op:=.binOp .add 3 (.tmp 284) (.const (.int .i64 1)) 3) hA rfl rfl rfl rfl rfl rfl rfl (λo hop d=>by have z0:IntKind.i64.wrap ((j:Int)+1)=((j+1:Nat):Int):=(by rw [IntKind.wrap_i64];omega);unfold execOp;simp only [hop,hA.g 284 rfl];go_simp) (λa hA=>?_);refine wt (v:=.int .i64 (((j+1:Nat):Int))) hA rfl rfl rfl (hA.get rfl) rfl rfl (λa hA=>?_);refine Br.a9 ?_;refine Br.X3 ?_;exact hn a (hA.cut ⟨rfl,rfl,rfl,rfl,rfl,rfl,rfl,rfl,rfl,rfl,rfl,trivial⟩)
theorem c0s {l:List OpD}{Stop:Goroutine->World->Prop}{w:World}{vc vk vl:Value}{b1 b2 bd bm bi cB nF n j gF gS gD kF kS kD nD' nD'' f g:Nat}(hj:j<4)(hf:f<nF)(hg:g<nF)(hfg:f≠g){W1 W2 F1 F2:List Value}(r1:w.rangeAt gF (f*6+2) W1)(r2:w.rangeAt gF (g*6+2) W2)(l1:W1.length=4)(l2:W2.length=4)(cW:Cmp 73 W1 W2 true)(r3:w.rangeAt gF (f*6) F1)(r4:w.rangeAt kF (f*6) F2)(l3:F1.length=6)(l4:F2.length=6)(cF:Cmp 75 F1 F2 true)(hS:w.heap[b2]?=some (.cells #[.slice (some ⟨gF,0,none⟩) nF nF,.slice (some ⟨gS,0,none⟩) n n,.slice (some ⟨gD,0,none⟩) nD' nD'] 45 (0,0)))(hS1:w.heap[b1]?=some (.cells #[.slice (some ⟨kF,0,none⟩) nF nF,.slice (some ⟨kS,0,none⟩) n n,.slice (some ⟨kD,0,none⟩) nD'' nD''] 45 (0,0))){a:Act}(hA:Lvs 418 [(4,vc),(5,.pointer (some ⟨cB,0,none⟩)),(12,vk),(14,vl),(24,.pointer (some ⟨b1,0,none⟩)),(25,.pointer (some ⟨bd,0,none⟩)),(26,.bool true),(27,.pointer (some ⟨b2,0,none⟩)),(29,.pointer (some ⟨bm,0,none⟩)),(30,.pointer (some ⟨bi,0,none⟩)),(31,.int .i64 j),(32,.int .i64 f),(33,.int .i64 g)] a)(k:List Item)(cs:List Frame)
  (hn:∀ a',Lvs 418 [(4,vc),(5,.pointer (some ⟨cB,0,none⟩)),(12,vk),(14,vl),(24,.pointer (some ⟨b1,0,none⟩)),(25,.pointer (some ⟨bd,0,none⟩)),(26,.bool true),(27,.pointer (some ⟨b2,0,none⟩)),(29,.pointer (some ⟨bm,0,none⟩)),(30,.pointer (some ⟨bi,0,none⟩)),(31,.int .i64 (((j+1:Nat):Int)))] a'->FL l Stop a' (.code L3::.inLoop L3::.inBlock 6::.code W6::k) cs w) :
  FL l Stop a (.code (.seq (.region 51 (n6 51) true) (.cond (.tmp 360) (P2 52) .skip))::.inBlock 7::.code (rf 46)::.inLoop L3::.inBlock 6::.code W6::k) cs w:=by
 have cs2:∀ d,(w.at d).cell? ⟨b2,0,none⟩=some (.slice (some ⟨gF,0,none⟩) nF nF):=λd=>by (show w.cell? _=_;simp [World.cell?,hS])
 have cs1:∀ d,(w.at d).cell? ⟨b1,0,none⟩=some (.slice (some ⟨kF,0,none⟩) nF nF):=λd=>by (show w.cell? _=_;simp [World.cell?,hS1])
 refine Br.b8 ?_;refine a3I (ops:=n6 51) (V:=λi=>([.int .i64 f,.bool true,.bool true,.int .i64 f,.int .i64 g,.bool false,.bool false,.pointer (some ⟨b2,0,none⟩),.slice (some ⟨gF,0,none⟩) nF nF,.int .i64 f,.pointer (some ⟨gF,f*6,none⟩),.pointer (some ⟨gF,f*6+2,none⟩),.agg W1.toArray,.pointer (some ⟨b2,0,none⟩),.slice (some ⟨gF,0,none⟩) nF nF,.int .i64 g,.pointer (some ⟨gF,g*6,none⟩),.pointer (some ⟨gF,g*6+2,none⟩),.agg W2.toArray,.bool false,.bool false,.bool false,.pointer (some ⟨b2,0,none⟩),.slice (some ⟨gF,0,none⟩) nF nF,.int .i64 f,.pointer (some ⟨gF,f*6,none⟩),.agg F1.toArray,.pointer (some ⟨b1,0,none⟩),.slice (some ⟨kF,0,none⟩) nF nF,.int .i64 f,.pointer (some ⟨kF,f*6,none⟩),.agg F2.toArray,.bool false,.bool false,.bool false]:List Value).getD i undef) (by decide) hA.defers (by kernel_rfl) (by kernel_rfl) (λi a' listed hAg hcl hr=>?_) (λa' listed hAg hall=>?_)
 ·have hlt:i<35:=Br.G8 hr;have R:=λ(j t:Nat) {v:Value} (h:a0F (n6 51) 418 i j t=true) hv=>a4N (v:=v) hA hAg hr h hv;have Bz:=λ(t:Nat) {v:Value} (h:a3n (n6 51) t=true) hv=>a2J (v:=v) hA hAg h hv;have Q:=λ{o:Oper} {j:Nat} {x y:Bool} (t:Nat) (ho:(n6 51)[i]?=some o) (hg:o.guard=some (j,y)) (h:a0F (n6 51) 418 i j t=true) hv=>a3L (x:=x) hA hAg hr ho hg h hv;have S {w:World}:=dS (w:=w) hA hAg hr;rcases (by omega:i=0\/i=1\/i=2\/i=3\/i=4\/i=5\/i=6\/i=7\/i=8\/i=9\/i=10\/i=11\/i=12\/i=13\/i=14\/i=15\/i=16\/i=17\/i=18\/i=19\/i=20\/i=21\/i=22\/i=23\/i=24\/i=25\/i=26\/i=27\/i=28\/i=29\/i=30\/i=31\/i=32\/i=33\/i=34) with rfl|rfl|rfl|rfl|rfl|rfl|rfl|rfl|rfl|rfl|rfl|rfl|rfl|rfl|rfl|rfl|rfl|rfl|rfl|rfl|rfl|rfl|rfl|rfl|rfl|rfl|rfl|rfl|rfl|rfl|rfl|rfl|rfl|rfl|rfl
  ·exact S (by kernel_rfl)
  ·exact dop (v:=.bool true) (op:=.binOp .geq 3 (.tmp 326) (.const (.int .i64 0)) 3) rfl rfl rfl (by kernel_rfl) (λo h d=>by have z0:(0:Int)<=(f:Int):=(by omega);unfold execOp;simp only [h,R 0 326 (by kernel_rfl) rfl];go_simp)
  ·exact S (by kernel_rfl)
  ·exact S (by kernel_rfl)
  ·exact S (by kernel_rfl)
  ·exact D6 (v:=.bool false) (op:=.binOp .eql 3 (.tmp 329) (.tmp 330) 3) rfl ((Q 328 rfl rfl (by kernel_rfl) rfl).trans rfl) rfl (by kernel_rfl) (λo h d=>by have z0:¬ (f:Int)=(g:Int):=(by omega);unfold execOp;simp only [h,R 3 329 (by kernel_rfl) rfl,R 4 330 (by kernel_rfl) rfl];go_simp)
  ·exact S (by kernel_rfl)
  ·exact D6 (v:=.pointer (some ⟨b2,0,none⟩)) (op:=.fieldAddr 45 (.tmp 27) 0) rfl ((Q 332 rfl rfl (by kernel_rfl) rfl).trans rfl) rfl rfl (λo h d=>by unfold execOp;simp only [h,Bz 27 (by kernel_rfl) rfl];go_simp)
  ·exact D6 (v:=.slice (some ⟨gF,0,none⟩) nF nF) (op:=.load 41 (.tmp 333)) rfl ((Q 332 rfl rfl (by kernel_rfl) rfl).trans rfl) rfl rfl (λo h d=>by have z0:=cs2 d;unfold execOp;simp only [h,R 7 333 (by kernel_rfl) rfl];go_simp)
  ·exact S (by kernel_rfl)
  ·exact D6 (v:=.pointer (some ⟨gF,f*6,none⟩)) (op:=.indexAddr 41 (.tmp 334) (.tmp 335)) rfl ((Q 332 rfl rfl (by kernel_rfl) rfl).trans rfl) rfl rfl (λo h d=>by have z0:(0:Int)<=(f:Int):=(by omega);have z1:(f:Int)<(nF:Int):=(by omega);unfold execOp;simp only [h,R 8 334 (by kernel_rfl) rfl,R 9 335 (by kernel_rfl) rfl];go_simp)
  ·exact D6 (v:=.pointer (some ⟨gF,f*6+2,none⟩)) (op:=.fieldAddr 75 (.tmp 336) 2) rfl ((Q 332 rfl rfl (by kernel_rfl) rfl).trans rfl) rfl rfl (λo h d=>by unfold execOp;simp only [h,R 10 336 (by kernel_rfl) rfl];go_simp)
  ·exact D6 (v:=.agg W1.toArray) (op:=.load 73 (.tmp 337)) rfl ((Q 332 rfl rfl (by kernel_rfl) rfl).trans rfl) rfl rfl (λo h d=>F8 h (R 11 337 (by kernel_rfl) rfl) (show w.rangeAt gF (f*6+2) _ from r1) Tryd.underlying73 rfl (by rw [l1];kernel_rfl))
  ·exact D6 (v:=.pointer (some ⟨b2,0,none⟩)) (op:=.fieldAddr 45 (.tmp 27) 0) rfl ((Q 332 rfl rfl (by kernel_rfl) rfl).trans rfl) rfl rfl (λo h d=>by unfold execOp;simp only [h,Bz 27 (by kernel_rfl) rfl];go_simp)
  ·exact D6 (v:=.slice (some ⟨gF,0,none⟩) nF nF) (op:=.load 41 (.tmp 339)) rfl ((Q 332 rfl rfl (by kernel_rfl) rfl).trans rfl) rfl rfl (λo h d=>by have z0:=cs2 d;unfold execOp;simp only [h,R 13 339 (by kernel_rfl) rfl];go_simp)
  ·exact S (by kernel_rfl)
  ·exact D6 (v:=.pointer (some ⟨gF,g*6,none⟩)) (op:=.indexAddr 41 (.tmp 340) (.tmp 341)) rfl ((Q 332 rfl rfl (by kernel_rfl) rfl).trans rfl) rfl rfl (λo h d=>by have z0:(0:Int)<=(g:Int):=(by omega);have z1:(g:Int)<(nF:Int):=(by omega);unfold execOp;simp only [h,R 14 340 (by kernel_rfl) rfl,R 15 341 (by kernel_rfl) rfl];go_simp)
  ·exact D6 (v:=.pointer (some ⟨gF,g*6+2,none⟩)) (op:=.fieldAddr 75 (.tmp 342) 2) rfl ((Q 332 rfl rfl (by kernel_rfl) rfl).trans rfl) rfl rfl (λo h d=>by unfold execOp;simp only [h,R 16 342 (by kernel_rfl) rfl];go_simp)
  ·exact D6 (v:=.agg W2.toArray) (op:=.load 73 (.tmp 343)) rfl ((Q 332 rfl rfl (by kernel_rfl) rfl).trans rfl) rfl rfl (λo h d=>F8 h (R 17 343 (by kernel_rfl) rfl) (show w.rangeAt gF (g*6+2) _ from r2) Tryd.underlying73 rfl (by rw [l2];kernel_rfl))
  ·exact D6 (v:=.bool false) (op:=.binOp .neq 73 (.tmp 338) (.tmp 344) 73) rfl ((Q 332 rfl rfl (by kernel_rfl) rfl).trans rfl) rfl (by kernel_rfl) (λo h d=>a5D h (R 12 338 (by kernel_rfl) rfl) (R 18 344 (by kernel_rfl) rfl) (by kernel_rfl) cW)
  ·exact S (by kernel_rfl)
  ·exact S (by kernel_rfl)
  ·exact D6 (v:=.pointer (some ⟨b2,0,none⟩)) (op:=.fieldAddr 45 (.tmp 27) 0) rfl ((Q 347 rfl rfl (by kernel_rfl) rfl).trans rfl) rfl rfl (λo h d=>by unfold execOp;simp only [h,Bz 27 (by kernel_rfl) rfl];go_simp)
  ·exact D6 (v:=.slice (some ⟨gF,0,none⟩) nF nF) (op:=.load 41 (.tmp 348)) rfl ((Q 347 rfl rfl (by kernel_rfl) rfl).trans rfl) rfl rfl (λo h d=>by have z0:=cs2 d;unfold execOp;simp only [h,R 22 348 (by kernel_rfl) rfl];go_simp)
  ·exact S (by kernel_rfl)
  ·exact D6 (v:=.pointer (some ⟨gF,f*6,none⟩)) (op:=.indexAddr 41 (.tmp 349) (.tmp 350)) rfl ((Q 347 rfl rfl (by kernel_rfl) rfl).trans rfl) rfl rfl (λo h d=>by have z0:(0:Int)<=(f:Int):=(by omega);have z1:(f:Int)<(nF:Int):=(by omega);unfold execOp;simp only [h,R 23 349 (by kernel_rfl) rfl,R 24 350 (by kernel_rfl) rfl];go_simp)
  ·exact D6 (v:=.agg F1.toArray) (op:=.load 75 (.tmp 351)) rfl ((Q 347 rfl rfl (by kernel_rfl) rfl).trans rfl) rfl rfl (λo h d=>F8 h (R 25 351 (by kernel_rfl) rfl) (show w.rangeAt gF (f*6) _ from r3) Tryd.underlying75 rfl (by rw [l3];kernel_rfl))
  ·exact D6 (v:=.pointer (some ⟨b1,0,none⟩)) (op:=.fieldAddr 45 (.tmp 24) 0) rfl ((Q 347 rfl rfl (by kernel_rfl) rfl).trans rfl) rfl rfl (λo h d=>by unfold execOp;simp only [h,Bz 24 (by kernel_rfl) rfl];go_simp)
  ·exact D6 (v:=.slice (some ⟨kF,0,none⟩) nF nF) (op:=.load 41 (.tmp 353)) rfl ((Q 347 rfl rfl (by kernel_rfl) rfl).trans rfl) rfl rfl (λo h d=>by have z0:=cs1 d;unfold execOp;simp only [h,R 27 353 (by kernel_rfl) rfl];go_simp)
  ·exact S (by kernel_rfl)
  ·exact D6 (v:=.pointer (some ⟨kF,f*6,none⟩)) (op:=.indexAddr 41 (.tmp 354) (.tmp 355)) rfl ((Q 347 rfl rfl (by kernel_rfl) rfl).trans rfl) rfl rfl (λo h d=>by have z0:(0:Int)<=(f:Int):=(by omega);have z1:(f:Int)<(nF:Int):=(by omega);unfold execOp;simp only [h,R 28 354 (by kernel_rfl) rfl,R 29 355 (by kernel_rfl) rfl];go_simp)
  ·exact D6 (v:=.agg F2.toArray) (op:=.load 75 (.tmp 356)) rfl ((Q 347 rfl rfl (by kernel_rfl) rfl).trans rfl) rfl rfl (λo h d=>F8 h (R 30 356 (by kernel_rfl) rfl) (show w.rangeAt kF (f*6) _ from r4) Tryd.underlying75 rfl (by rw [l4];kernel_rfl))
  ·exact D6 (v:=.bool false) (op:=.binOp .neq 75 (.tmp 352) (.tmp 357) 75) rfl ((Q 347 rfl rfl (by kernel_rfl) rfl).trans rfl) rfl (by kernel_rfl) (λo h d=>a5D h (R 26 352 (by kernel_rfl) rfl) (R 31 357 (by kernel_rfl) rfl) (by kernel_rfl) cF)
  ·exact S (by kernel_rfl)
  ·exact S (by kernel_rfl)
 ·replace hA:Lvs 418 [(360,.bool false),(4,vc),(5,.pointer (some ⟨cB,0,none⟩)),(12,vk),(14,vl),(24,.pointer (some ⟨b1,0,none⟩)),(25,.pointer (some ⟨bd,0,none⟩)),(26,.bool true),(27,.pointer (some ⟨b2,0,none⟩)),(29,.pointer (some ⟨bm,0,none⟩)),(30,.pointer (some ⟨bi,0,none⟩)),(31,.int .i64 j)] a':=a3J hA hAg hall (λp hp=>by
   simp only [List.mem_cons,List.not_mem_nil,or_false] at hp;rcases hp with rfl|rfl|rfl|rfl|rfl|rfl|rfl|rfl|rfl|rfl|rfl|rfl
   ·exact .inl ⟨34,_,rfl,rfl,rfl,by decide⟩
   ·exact .inr ⟨by kernel_rfl,rfl⟩
   ·exact .inr ⟨by kernel_rfl,rfl⟩
   ·exact .inr ⟨by kernel_rfl,rfl⟩
   ·exact .inr ⟨by kernel_rfl,rfl⟩
   ·exact .inr ⟨by kernel_rfl,rfl⟩
   ·exact .inr ⟨by kernel_rfl,rfl⟩
   ·exact .inr ⟨by kernel_rfl,rfl⟩
   ·exact .inr ⟨by kernel_rfl,rfl⟩
   ·exact .inr ⟨by kernel_rfl,rfl⟩
   ·exact .inr ⟨by kernel_rfl,rfl⟩
   ·exact .inr ⟨by kernel_rfl,rfl⟩)
  clear hAg hall;refine Br.t7 (t:=false) (hA.get rfl) ?_;refine Br.l9 ?_;refine Br.U3 ?_;refine g9 (ops:=n6 46) (n:=46) (il:=[0,1,2]) (by kernel_rfl) ?_;refine ns 1 hA rfl (λa hA=>?_);refine nop (v:=.int .i64 (((j+1:Nat):Int))) (op:=.binOp .add 3 (.tmp 284) (.const (.int .i64 1)) 3) hA rfl rfl rfl rfl rfl rfl rfl (λo hop d=>by have z0:IntKind.i64.wrap ((j:Int)+1)=((j+1:Nat):Int):=(by rw [IntKind.wrap_i64];omega);unfold execOp;simp only [hop,hA.g 284 rfl];go_simp) (λa hA=>?_);refine wt (v:=.int .i64 (((j+1:Nat):Int))) hA rfl rfl rfl (hA.get rfl) rfl rfl (λa hA=>?_);refine Br.a9 ?_;refine Br.X3 ?_;exact hn a (hA.cut ⟨rfl,rfl,rfl,rfl,rfl,rfl,rfl,rfl,rfl,rfl,rfl,trivial⟩)
end Go.Proofs.YtcgabodkegcpgaaDoor
