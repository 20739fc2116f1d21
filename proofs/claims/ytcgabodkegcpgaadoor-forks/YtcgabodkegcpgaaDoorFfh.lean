/- Forks: the pieces of its loop of files. -/
import Derived.Test.YtcgabodkegcpgaaDoorFfg
import Derived.Test.YtcgabodkegcpgaaDoorLwn
import Derived.Test.YtcgabodkegcpgaaDoorNea
set_option linter.unusedVariables false
set_option linter.unusedSimpArgs false
set_option maxHeartbeats 20000000
set_option maxRecDepth 100000
namespace Go.Proofs.YtcgabodkegcpgaaDoor
open Go.Conc Go.RowKit
open Br (X OpD KO SO SP sfO Lk Fit Must DL Liv Clear)
theorem c1g {l:List OpD}{Stop:Goroutine->World->Prop}{w:World}{vc vk vl:Value}{vf:Value}{had cB:Nat}{a:Act}(hA:Lvs 418 [(3,vf),(4,vc),(5,.pointer (some ⟨cB,0,none⟩)),(12,vk),(14,vl),(15,.int .i64 had)] a)(k:List Item)(cs:List Frame)
  (hn:∀ a',Lvs 418 [(3,vf),(4,vc),(5,.pointer (some ⟨cB,0,none⟩)),(12,vk),(14,vl),(15,.int .i64 had),(20,.int .i64 0),(21,.int .i64 0)] a'->FL l Stop a' (.code B1::.inLoop B1::.inBlock 4::.code L4::k) cs w) :
  FL l Stop a (.code G5::k) cs w:=by
 unfold G5;refine Br.b8 ?_;refine g9 (ops:=n6 23) (n:=23) (il:=[0]) (by kernel_rfl) ?_;refine ns 1 hA rfl (λa hA=>?_);refine Br.a9 ?_;refine Br.b8 ?_;refine Br.b8 ?_;refine g9 (ops:=n6 24) (n:=24) (il:=[0]) (by kernel_rfl) ?_;refine ns 1 hA rfl (λa hA=>?_);refine Br.a9 ?_;refine Br.N7 ?_;refine Br.a2m ?_;exact hn a (hA.cut ⟨rfl,rfl,rfl,rfl,rfl,rfl,rfl,rfl,trivial⟩)
theorem c1h {l:List OpD}{Stop:Goroutine->World->Prop}{w:World}{vc vk vl:Value}{fa:Option Addr}{fl fc had rings i cB:Nat}(hi:i=2){a:Act}(hA:Lvs 418 [(3,.slice fa fl fc),(4,vc),(5,.pointer (some ⟨cB,0,none⟩)),(12,vk),(14,vl),(15,.int .i64 had),(20,.int .i64 rings),(21,.int .i64 i)] a)(k:List Item)(cs:List Frame)
  (hn:∀ a',Lvs 418 [(4,vc),(5,.pointer (some ⟨cB,0,none⟩)),(12,vk),(14,vl),(15,.int .i64 had),(20,.int .i64 rings)] a'->FL l Stop a' (.code L4::k) cs w) :
  FL l Stop a (.code B1::.inLoop B1::.inBlock 4::.code L4::k) cs w:=by
 unfold B1;refine Br.b8 ?_;refine Br.b8 ?_;refine g9 (ops:=n6 25) (n:=25) (il:=[0,1,2,3,4,5,6,7,8,9,10,11,12,13]) (by kernel_rfl) ?_;refine ns 1 hA rfl (λa hA=>?_);refine nop (v:=.bool false) (op:=.binOp .lss 3 (.tmp 132) (.const (.int .i64 2)) 3) hA rfl rfl rfl rfl rfl rfl rfl (λo hop d=>by have z0:¬ (i:Int)<2:=(by omega);unfold execOp;simp only [hop,hA.g 132 rfl];go_simp) (λa hA=>?_);refine ns 12 hA rfl (λa hA=>?_);refine Br.a9 ?_;refine Br.t7 (t:=false) (hA.get rfl) ?_;refine Br.a0e (k':=.code L4::k) (by rfl) ?_;exact hn a (hA.cut ⟨rfl,rfl,rfl,rfl,rfl,rfl,trivial⟩)
theorem c1i {l:List OpD}{Stop:Goroutine->World->Prop}{w:World}{vc vk vl:Value}{fa:Option Addr}{fl fc had rings i cB:Nat}(hi:i<2)(hl:fl<=i){a:Act}(hA:Lvs 418 [(3,.slice fa fl fc),(4,vc),(5,.pointer (some ⟨cB,0,none⟩)),(12,vk),(14,vl),(15,.int .i64 had),(20,.int .i64 rings),(21,.int .i64 i)] a)(k:List Item)(cs:List Frame)
  (hn:∀ a',Lvs 418 [(4,vc),(5,.pointer (some ⟨cB,0,none⟩)),(12,vk),(14,vl),(15,.int .i64 had),(20,.int .i64 rings)] a'->FL l Stop a' (.code L4::k) cs w) :
  FL l Stop a (.code B1::.inLoop B1::.inBlock 4::.code L4::k) cs w:=by
 unfold B1;refine Br.b8 ?_;refine Br.b8 ?_;refine g9 (ops:=n6 25) (n:=25) (il:=[0,1,2,3,4,5,6,7,8,9,10,11,12,13]) (by kernel_rfl) ?_;refine ns 1 hA rfl (λa hA=>?_);refine nop (v:=.bool true) (op:=.binOp .lss 3 (.tmp 132) (.const (.int .i64 2)) 3) hA rfl rfl rfl rfl rfl rfl rfl (λo hop d=>by have z0:(i:Int)<2:=(by omega);unfold execOp;simp only [hop,hA.g 132 rfl];go_simp) (λa hA=>?_);refine ns 3 hA rfl (λa hA=>?_);refine nlg hA rfl rfl rfl rfl rfl rfl rfl Tryd.underlying23 rfl rfl rfl rfl (λa hA=>?_);refine v6 (v:=.bool false) (op:=.binOp .lss 3 (.tmp 135) (.tmp 137) 3) hA rfl rfl rfl rfl rfl rfl rfl rfl rfl rfl rfl (λo hop d=>by have z0:¬ (i:Int)<(fl:Int):=(by omega);unfold execOp;simp only [hop,hA.g 135 rfl,hA.g 137 rfl];go_simp) (λa hA=>?_);refine ns 7 hA rfl (λa hA=>?_);refine Br.a9 ?_;refine Br.t7 (t:=false) (hA.get rfl) ?_;refine Br.a0e (k':=.code L4::k) (by rfl) ?_;exact hn a (hA.cut ⟨rfl,rfl,rfl,rfl,rfl,rfl,trivial⟩)
theorem c1j {l:List OpD}{Stop:Goroutine->World->Prop}{w:World}{vc vk vl:Value}{fa:Option Addr}{fl fc had rings i cB:Nat}{nF nD:Nat}{nS:Int}(hi:i<2)(hl:i<fl)(hd:nD<=i)(hX:w.heap[cB]?=some (.cells #[.int .i64 nF,.int .i64 nS,.int .i64 nD] 30 (0,0))){a:Act}(hA:Lvs 418 [(3,.slice fa fl fc),(4,vc),(5,.pointer (some ⟨cB,0,none⟩)),(12,vk),(14,vl),(15,.int .i64 had),(20,.int .i64 rings),(21,.int .i64 i)] a)(k:List Item)(cs:List Frame)
  (hn:∀ a',Lvs 418 [(4,vc),(5,.pointer (some ⟨cB,0,none⟩)),(12,vk),(14,vl),(15,.int .i64 had),(20,.int .i64 rings)] a'->FL l Stop a' (.code L4::k) cs w) :
  FL l Stop a (.code B1::.inLoop B1::.inBlock 4::.code L4::k) cs w:=by
 have cf:∀ d,(w.at d).cell? ⟨cB,0,none⟩=some (.int .i64 nF)/\(w.at d).cell? ⟨cB,2,none⟩=some (.int .i64 nD):=λd=>by constructor<;>(show w.cell? _=_;simp [World.cell?,hX])
 unfold B1;refine Br.b8 ?_;refine Br.b8 ?_;refine g9 (ops:=n6 25) (n:=25) (il:=[0,1,2,3,4,5,6,7,8,9,10,11,12,13]) (by kernel_rfl) ?_;refine ns 1 hA rfl (λa hA=>?_);refine nop (v:=.bool true) (op:=.binOp .lss 3 (.tmp 132) (.const (.int .i64 2)) 3) hA rfl rfl rfl rfl rfl rfl rfl (λo hop d=>by have z0:(i:Int)<2:=(by omega);unfold execOp;simp only [hop,hA.g 132 rfl];go_simp) (λa hA=>?_);refine ns 3 hA rfl (λa hA=>?_);refine nlg hA rfl rfl rfl rfl rfl rfl rfl Tryd.underlying23 rfl rfl rfl rfl (λa hA=>?_);refine v6 (v:=.bool true) (op:=.binOp .lss 3 (.tmp 135) (.tmp 137) 3) hA rfl rfl rfl rfl rfl rfl rfl rfl rfl rfl rfl (λo hop d=>by have z0:(i:Int)<(fl:Int):=(by omega);unfold execOp;simp only [hop,hA.g 135 rfl,hA.g 137 rfl];go_simp) (λa hA=>?_);refine ns 3 hA rfl (λa hA=>?_);refine v6 (v:=.pointer (some ⟨cB,2,none⟩)) (op:=.fieldAddr 30 (.tmp 5) 2) hA rfl rfl rfl rfl rfl rfl rfl rfl rfl rfl rfl (λo hop d=>by unfold execOp;simp only [hop,hA.g 5 rfl];go_simp) (λa hA=>?_);refine v6 (v:=.int .i64 nD) (op:=.load 3 (.tmp 142)) hA rfl rfl rfl rfl rfl rfl rfl rfl rfl rfl rfl (λo hop d=>by have z0:=(cf d).2;unfold execOp;simp only [hop,hA.g 142 rfl];go_simp) (λa hA=>?_);refine v6 (v:=.bool false) (op:=.binOp .lss 3 (.tmp 141) (.tmp 143) 3) hA rfl rfl rfl rfl rfl rfl rfl rfl rfl rfl rfl (λo hop d=>by have z0:¬ (i:Int)<(nD:Int):=(by omega);unfold execOp;simp only [hop,hA.g 141 rfl,hA.g 143 rfl];go_simp) (λa hA=>?_);refine ns 1 hA rfl (λa hA=>?_);refine Br.a9 ?_;refine Br.t7 (t:=false) (hA.get rfl) ?_;refine Br.a0e (k':=.code L4::k) (by rfl) ?_;exact hn a (hA.cut ⟨rfl,rfl,rfl,rfl,rfl,rfl,trivial⟩)
theorem b5D {l:List OpD}{Stop:Goroutine->World->Prop}{w:World}{vc vk vl:Value}{fa:Option Addr}{fl fc had rings i cB nF nD:Nat}{nS:Int}(hi:i<2)(hl:i<fl)(hd:i<nD)(hX:w.heap[cB]?=some (.cells #[.int .i64 nF,.int .i64 nS,.int .i64 nD] 30 (0,0))){a:Act}(hA:Lvs 418 [(3,.slice fa fl fc),(4,vc),(5,.pointer (some ⟨cB,0,none⟩)),(12,vk),(14,vl),(15,.int .i64 had),(20,.int .i64 rings),(21,.int .i64 i)] a)(k:List Item)(cs:List Frame)
  (hn:∀ a',Lvs 418 [(3,.slice fa fl fc),(4,vc),(5,.pointer (some ⟨cB,0,none⟩)),(12,vk),(14,vl),(15,.int .i64 had),(20,.int .i64 rings),(21,.int .i64 i)] a'->FL l Stop a' (.code (.seq (rf 27) (.cond (.tmp 160) a1E .skip))::.inBlock 5::.code (rf 26)::.inLoop B1::.inBlock 4::.code L4::k) cs w) :
  FL l Stop a (.code B1::.inLoop B1::.inBlock 4::.code L4::k) cs w:=by
 have i1:(i:Int)<(fl:Int):=by omega
 have i2:(i:Int)<2:=by omega
 have i3:(i:Int)<(nD:Int):=by omega
 have cf:∀ d,(w.at d).cell? ⟨cB,0,none⟩=some (.int .i64 nF)/\(w.at d).cell? ⟨cB,2,none⟩=some (.int .i64 nD):=λd=>by constructor<;>(show w.cell? _=_;simp [World.cell?,hX])
 unfold B1;refine Br.b8 ?_;refine Br.b8 ?_;refine g9 (ops:=n6 25) (n:=25) (il:=[0,1,2,3,4,5,6,7,8,9,10,11,12,13]) (by kernel_rfl) ?_;refine ns 1 hA rfl (λa hA=>?_);refine nop (v:=.bool true) (op:=.binOp .lss 3 (.tmp 132) (.const (.int .i64 2)) 3) hA rfl rfl rfl rfl rfl rfl rfl (λo hop d=>by unfold execOp;simp only [hop,hA.g 132 rfl];go_simp) (λa hA=>?_);refine ns 3 hA rfl (λa hA=>?_);refine nlg hA rfl rfl rfl rfl rfl rfl rfl Tryd.underlying23 rfl rfl rfl rfl (λa hA=>?_);refine v6 (v:=.bool true) (op:=.binOp .lss 3 (.tmp 135) (.tmp 137) 3) hA rfl rfl rfl rfl rfl rfl rfl rfl rfl rfl rfl (λo hop d=>by unfold execOp;simp only [hop,hA.g 135 rfl,hA.g 137 rfl];go_simp) (λa hA=>?_);refine ns 3 hA rfl (λa hA=>?_);refine v6 (v:=.pointer (some ⟨cB,2,none⟩)) (op:=.fieldAddr 30 (.tmp 5) 2) hA rfl rfl rfl rfl rfl rfl rfl rfl rfl rfl rfl (λo hop d=>by unfold execOp;simp only [hop,hA.g 5 rfl];go_simp) (λa hA=>?_);refine v6 (v:=.int .i64 nD) (op:=.load 3 (.tmp 142)) hA rfl rfl rfl rfl rfl rfl rfl rfl rfl rfl rfl (λo hop d=>by have z0:=(cf d).2;unfold execOp;simp only [hop,hA.g 142 rfl];go_simp) (λa hA=>?_);refine v6 (v:=.bool true) (op:=.binOp .lss 3 (.tmp 141) (.tmp 143) 3) hA rfl rfl rfl rfl rfl rfl rfl rfl rfl rfl rfl (λo hop d=>by unfold execOp;simp only [hop,hA.g 141 rfl,hA.g 143 rfl];go_simp) (λa hA=>?_);refine ns 1 hA rfl (λa hA=>?_);refine Br.a9 ?_;refine Br.t7 (t:=true) (hA.get rfl) ?_;refine Br.l9 ?_;refine Br.b8 ?_;refine Br.N7 ?_;exact hn a (hA.cut ⟨rfl,rfl,rfl,rfl,rfl,rfl,rfl,rfl,trivial⟩)
theorem c1k {l:List OpD}{Stop:Goroutine->World->Prop}{w:World}{vc vk vl:Value}{fg fo fl fc had rings s i cB nF nD:Nat}{nS:Int}(hs:had+rings=s)(hh:s<=10)(hl:i<fl)  (hX:w.heap[cB]?=some (.cells #[.int .i64 nF,.int .i64 nS,.int .i64 nD] 30 (0,0)))(hy:w.cell? ⟨fg,fo+i,none⟩=some (.bool false)){a:Act}(hA:Lvs 418 [(3,.slice (some ⟨fg,fo,none⟩) fl fc),(4,vc),(5,.pointer (some ⟨cB,0,none⟩)),(12,vk),(14,vl),(15,.int .i64 had),(20,.int .i64 rings),(21,.int .i64 i)] a)(k:List Item)(cs:List Frame)
  (hn:∀ a',Lvs 418 [(3,.slice (some ⟨fg,fo,none⟩) fl fc),(4,vc),(5,.pointer (some ⟨cB,0,none⟩)),(12,vk),(14,vl),(15,.int .i64 had),(20,.int .i64 rings),(21,.int .i64 i)] a'->FL l Stop a' (.inBlock 5::.code (rf 26)::.inLoop B1::.inBlock 4::.code L4::k) cs w) :
  FL l Stop a (.code (.seq (rf 27) (.cond (.tmp 160) a1E .skip))::.inBlock 5::.code (rf 26)::.inLoop B1::.inBlock 4::.code L4::k) cs w:=by
 have i0:(0:Int)<=(i:Int):=by omega
 have i1:(i:Int)<(fl:Int):=by omega
 have cf:∀ d,(w.at d).cell? ⟨cB,0,none⟩=some (.int .i64 nF)/\(w.at d).cell? ⟨cB,2,none⟩=some (.int .i64 nD):=λd=>by constructor<;>(show w.cell? _=_;simp [World.cell?,hX])
 refine Br.b8 ?_;refine g9 (ops:=n6 27) (n:=27) (il:=[0,1,2,3,4,5,6,7,8,9,10,11,12]) (by kernel_rfl) ?_;refine ns 2 hA rfl (λa hA=>?_);refine nop (v:=.pointer (some ⟨fg,fo+i,none⟩)) (op:=.indexAddr 23 (.tmp 148) (.tmp 149)) hA rfl rfl rfl rfl rfl rfl rfl (λo hop d=>by unfold execOp;simp only [hop,hA.g 148 rfl,hA.g 149 rfl];go_simp) (λa hA=>?_);refine nop (v:=.bool false) (op:=.load 4 (.tmp 150)) hA rfl rfl rfl rfl rfl rfl rfl (λo hop d=>by have z0:(w.at d).cell? ⟨fg,fo+i,none⟩=some (.bool false):=hy;unfold execOp;simp only [hop,hA.g 150 rfl];go_simp) (λa hA=>?_);refine ns 9 hA rfl (λa hA=>?_);refine Br.a9 ?_;refine Br.t7 (t:=false) (hA.get rfl) ?_;refine Br.l9 ?_;exact hn a (hA.cut ⟨rfl,rfl,rfl,rfl,rfl,rfl,rfl,rfl,trivial⟩)
theorem c1l {l:List OpD}{Stop:Goroutine->World->Prop}{w:World}{vc vk vl:Value}{fg fo fl fc had rings s i cB nF nD:Nat}{nS:Int}(hs:had+rings=s)(hh:s<=10)(hl:i<fl)(hf:nF<=s+2)(hX:w.heap[cB]?=some (.cells #[.int .i64 nF,.int .i64 nS,.int .i64 nD] 30 (0,0)))(hy:w.cell? ⟨fg,fo+i,none⟩=some (.bool true)){a:Act}(hA:Lvs 418 [(3,.slice (some ⟨fg,fo,none⟩) fl fc),(4,vc),(5,.pointer (some ⟨cB,0,none⟩)),(12,vk),(14,vl),(15,.int .i64 had),(20,.int .i64 rings),(21,.int .i64 i)] a)(k:List Item)(cs:List Frame)
  (hn:∀ a',Lvs 418 [(3,.slice (some ⟨fg,fo,none⟩) fl fc),(4,vc),(5,.pointer (some ⟨cB,0,none⟩)),(12,vk),(14,vl),(15,.int .i64 had),(20,.int .i64 rings),(21,.int .i64 i)] a'->FL l Stop a' (.inBlock 5::.code (rf 26)::.inLoop B1::.inBlock 4::.code L4::k) cs w) :
  FL l Stop a (.code (.seq (rf 27) (.cond (.tmp 160) a1E .skip))::.inBlock 5::.code (rf 26)::.inLoop B1::.inBlock 4::.code L4::k) cs w:=by
 have i0:(0:Int)<=(i:Int):=by omega
 have i1:(i:Int)<(fl:Int):=by omega
 have cf:∀ d,(w.at d).cell? ⟨cB,0,none⟩=some (.int .i64 nF)/\(w.at d).cell? ⟨cB,2,none⟩=some (.int .i64 nD):=λd=>by constructor<;>(show w.cell? _=_;simp [World.cell?,hX])
 refine Br.b8 ?_;refine g9 (ops:=n6 27) (n:=27) (il:=[0,1,2,3,4,5,6,7,8,9,10,11,12]) (by kernel_rfl) ?_;refine ns 2 hA rfl (λa hA=>?_);refine nop (v:=.pointer (some ⟨fg,fo+i,none⟩)) (op:=.indexAddr 23 (.tmp 148) (.tmp 149)) hA rfl rfl rfl rfl rfl rfl rfl (λo hop d=>by unfold execOp;simp only [hop,hA.g 148 rfl,hA.g 149 rfl];go_simp) (λa hA=>?_);refine nop (v:=.bool true) (op:=.load 4 (.tmp 150)) hA rfl rfl rfl rfl rfl rfl rfl (λo hop d=>by have z0:(w.at d).cell? ⟨fg,fo+i,none⟩=some (.bool true):=hy;unfold execOp;simp only [hop,hA.g 150 rfl];go_simp) (λa hA=>?_);refine ns 3 hA rfl (λa hA=>?_);refine v6 (v:=.int .i64 s) (op:=.binOp .add 3 (.tmp 153) (.tmp 154) 3) hA rfl rfl rfl rfl rfl rfl rfl rfl rfl rfl rfl (λo hop d=>by have z0:IntKind.i64.wrap ((had:Int)+(rings:Int))=(s:Int):=(by rw [IntKind.wrap_i64];omega);unfold execOp;simp only [hop,hA.g 153 rfl,hA.g 154 rfl];go_simp) (λa hA=>?_);refine v6 (v:=.int .i64 (((s+2:Nat):Int))) (op:=.binOp .add 3 (.tmp 155) (.const (.int .i64 2)) 3) hA rfl rfl rfl rfl rfl rfl rfl rfl rfl rfl rfl (λo hop d=>by have z0:IntKind.i64.wrap ((s:Int)+2)=((s+2:Nat):Int):=(by rw [IntKind.wrap_i64];omega);unfold execOp;simp only [hop,hA.g 155 rfl];go_simp) (λa hA=>?_);refine v6 (v:=.pointer (some ⟨cB,0,none⟩)) (op:=.fieldAddr 30 (.tmp 5) 0) hA rfl rfl rfl rfl rfl rfl rfl rfl rfl rfl rfl (λo hop d=>by unfold execOp;simp only [hop,hA.g 5 rfl];go_simp) (λa hA=>?_);refine v6 (v:=.int .i64 nF) (op:=.load 3 (.tmp 157)) hA rfl rfl rfl rfl rfl rfl rfl rfl rfl rfl rfl (λo hop d=>by have z0:=(cf d).1;unfold execOp;simp only [hop,hA.g 157 rfl];go_simp) (λa hA=>?_);refine v6 (v:=.bool false) (op:=.binOp .lss 3 (.tmp 156) (.tmp 158) 3) hA rfl rfl rfl rfl rfl rfl rfl rfl rfl rfl rfl (λo hop d=>by have z0:¬ ((s:Int)+2<(nF:Int)):=(by omega);unfold execOp;simp only [hop,hA.g 156 rfl,hA.g 158 rfl];go_simp) (λa hA=>?_);refine ns 1 hA rfl (λa hA=>?_);refine Br.a9 ?_;refine Br.t7 (t:=false) (hA.get rfl) ?_;refine Br.l9 ?_;exact hn a (hA.cut ⟨rfl,rfl,rfl,rfl,rfl,rfl,rfl,rfl,trivial⟩)
theorem c1m {l:List OpD}{Stop:Goroutine->World->Prop}{w:World}{vc vk vl:Value}{fg fo fl fc had rings s i cB nF nD:Nat}{nS:Int}(hs:had+rings=s)(hh:s<=10)(hl:i<fl)(hf:s+2<nF)(hX:w.heap[cB]?=some (.cells #[.int .i64 nF,.int .i64 nS,.int .i64 nD] 30 (0,0)))(hy:w.cell? ⟨fg,fo+i,none⟩=some (.bool true)){a:Act}(hA:Lvs 418 [(3,.slice (some ⟨fg,fo,none⟩) fl fc),(4,vc),(5,.pointer (some ⟨cB,0,none⟩)),(12,vk),(14,vl),(15,.int .i64 had),(20,.int .i64 rings),(21,.int .i64 i)] a)(k:List Item)(cs:List Frame)
  (hn:∀ a',Lvs 418 [(3,.slice (some ⟨fg,fo,none⟩) fl fc),(4,vc),(5,.pointer (some ⟨cB,0,none⟩)),(12,vk),(14,vl),(15,.int .i64 had),(20,.int .i64 rings),(21,.int .i64 i)] a'->FL l Stop a' (.code a1E::.inBlock 5::.code (rf 26)::.inLoop B1::.inBlock 4::.code L4::k) cs w) :
  FL l Stop a (.code (.seq (rf 27) (.cond (.tmp 160) a1E .skip))::.inBlock 5::.code (rf 26)::.inLoop B1::.inBlock 4::.code L4::k) cs w:=by
 have i0:(0:Int)<=(i:Int):=by omega
 have i1:(i:Int)<(fl:Int):=by omega
 have cf:∀ d,(w.at d).cell? ⟨cB,0,none⟩=some (.int .i64 nF)/\(w.at d).cell? ⟨cB,2,none⟩=some (.int .i64 nD):=λd=>by constructor<;>(show w.cell? _=_;simp [World.cell?,hX])
 refine Br.b8 ?_;refine g9 (ops:=n6 27) (n:=27) (il:=[0,1,2,3,4,5,6,7,8,9,10,11,12]) (by kernel_rfl) ?_;refine ns 2 hA rfl (λa hA=>?_);refine nop (v:=.pointer (some ⟨fg,fo+i,none⟩)) (op:=.indexAddr 23 (.tmp 148) (.tmp 149)) hA rfl rfl rfl rfl rfl rfl rfl (λo hop d=>by unfold execOp;simp only [hop,hA.g 148 rfl,hA.g 149 rfl];go_simp) (λa hA=>?_);refine nop (v:=.bool true) (op:=.load 4 (.tmp 150)) hA rfl rfl rfl rfl rfl rfl rfl (λo hop d=>by have z0:(w.at d).cell? ⟨fg,fo+i,none⟩=some (.bool true):=hy;unfold execOp;simp only [hop,hA.g 150 rfl];go_simp) (λa hA=>?_);refine ns 3 hA rfl (λa hA=>?_);refine v6 (v:=.int .i64 s) (op:=.binOp .add 3 (.tmp 153) (.tmp 154) 3) hA rfl rfl rfl rfl rfl rfl rfl rfl rfl rfl rfl (λo hop d=>by have z0:IntKind.i64.wrap ((had:Int)+(rings:Int))=(s:Int):=(by rw [IntKind.wrap_i64];omega);unfold execOp;simp only [hop,hA.g 153 rfl,hA.g 154 rfl];go_simp) (λa hA=>?_);refine v6 (v:=.int .i64 (((s+2:Nat):Int))) (op:=.binOp .add 3 (.tmp 155) (.const (.int .i64 2)) 3) hA rfl rfl rfl rfl rfl rfl rfl rfl rfl rfl rfl (λo hop d=>by have z0:IntKind.i64.wrap ((s:Int)+2)=((s+2:Nat):Int):=(by rw [IntKind.wrap_i64];omega);unfold execOp;simp only [hop,hA.g 155 rfl];go_simp) (λa hA=>?_);refine v6 (v:=.pointer (some ⟨cB,0,none⟩)) (op:=.fieldAddr 30 (.tmp 5) 0) hA rfl rfl rfl rfl rfl rfl rfl rfl rfl rfl rfl (λo hop d=>by unfold execOp;simp only [hop,hA.g 5 rfl];go_simp) (λa hA=>?_);refine v6 (v:=.int .i64 nF) (op:=.load 3 (.tmp 157)) hA rfl rfl rfl rfl rfl rfl rfl rfl rfl rfl rfl (λo hop d=>by have z0:=(cf d).1;unfold execOp;simp only [hop,hA.g 157 rfl];go_simp) (λa hA=>?_);refine v6 (v:=.bool true) (op:=.binOp .lss 3 (.tmp 156) (.tmp 158) 3) hA rfl rfl rfl rfl rfl rfl rfl rfl rfl rfl rfl (λo hop d=>by have z0:((s:Int)+2<(nF:Int)):=(by omega);unfold execOp;simp only [hop,hA.g 156 rfl,hA.g 158 rfl];go_simp) (λa hA=>?_);refine ns 1 hA rfl (λa hA=>?_);refine Br.a9 ?_;refine Br.t7 (t:=true) (hA.get rfl) ?_;exact hn a (hA.cut ⟨rfl,rfl,rfl,rfl,rfl,rfl,rfl,rfl,trivial⟩)
theorem c1n {l:List OpD}{Stop:Goroutine->World->Prop}{w:World}{vf vc vk vl:Value}{had rings i q cB:Nat}(hq:2*i=q)(hi:i<2){a:Act}(hA:Lvs 418 [(3,vf),(4,vc),(5,.pointer (some ⟨cB,0,none⟩)),(12,vk),(14,vl),(15,.int .i64 had),(20,.int .i64 rings),(21,.int .i64 i)] a)(k:List Item)(cs:List Frame)
  (hn:∀ a',Lvs 418 [(3,vf),(4,vc),(5,.pointer (some ⟨cB,0,none⟩)),(12,vk),(14,vl),(15,.int .i64 had),(20,.int .i64 rings),(21,.int .i64 i)] a'->∀ d,Stop (G (Frame.enter Tryd.prog 23 #[vl,.int .i64 0,.agg #[.int .i64 3,.int .i64 i,.int .i64 q]] .normal) ((base 7).at a' (.inRegion (n6 28) [5,6,7,8,9,10,11] :: .code (.seq (.seq (rf 29) (.cond (.tmp 176) (P2 30) .skip)) (rf 31))::k)::cs)) (w.at d)) :
  FL l Stop a (.code a1E::k) cs w:=by
 unfold a1E;refine Br.b8 ?_;refine g9 (ops:=n6 28) (n:=28) (il:=[0,1,2,3,4,5,6,7,8,9,10,11]) (by kernel_rfl) ?_;refine ns 3 hA rfl (λa hA=>?_);refine nop (v:=.int .i64 q) (op:=.binOp .mul 3 (.const (.int .i64 2)) (.tmp 164) 3) hA rfl rfl rfl (by kernel_rfl) rfl rfl rfl (λo hop d=>by have z0:IntKind.i64.wrap (2*(i:Int))=(q:Int):=(by rw [IntKind.wrap_i64];omega);unfold execOp;simp only [hop,hA.g 164 rfl];go_simp) (λa hA=>?_);refine nop (v:=.agg #[.int .i64 3,.int .i64 i,.int .i64 q]) (op:=.build 38 #[(0,.const (.int .i64 3)),(1,.tmp 163),(2,.tmp 165)]) hA rfl rfl rfl rfl rfl rfl rfl (λo hop d=>by have y0:a.tmps[163]?.getD undef=.int .i64 i:=(by have h9:=hA.at (t:=163) rfl;simp [h9]);have y1:a.tmps[165]?.getD undef=.int .i64 q:=(by have h9:=hA.at (t:=165) rfl;simp [h9]);unfold execOp;simp only [hop,hA.g 163 rfl,hA.g 165 rfl];go_simp;try rfl) (λa hA=>?_);have e162:=hA.g 162 rfl;have e166:=hA.g 166 rfl;exact a0c rfl rfl (by decide) rfl Tryd.func23 rfl rfl (by simp only [List.map_toArray,List.map_cons,List.map_nil,e162,e166];rfl) (hn a (hA.cut ⟨rfl,rfl,rfl,rfl,rfl,rfl,rfl,rfl,trivial⟩))
theorem c1o {l:List OpD}{Stop:Goroutine->World->Prop}{w:World}{vf vc vk vl:Value}(hft:Fit (sfO l) w)(hko:KO l w){had rings i q cB:Nat}(hh:rings<=4){a:Act}(hA:Lvs 418 [(167,.tuple #[.agg #[.int .i64 3,.int .i64 i,.int .i64 q,.int .i64 0,.int .i64 0],.bool true]),(3,vf),(4,vc),(5,.pointer (some ⟨cB,0,none⟩)),(12,vk),(14,vl),(15,.int .i64 had),(20,.int .i64 rings),(21,.int .i64 i)] a)(k:List Item)(cs:List Frame)
  (hn:∀ a' w',Grown w w'->Lvs 418 [(3,vf),(4,vc),(5,.pointer (some ⟨cB,0,none⟩)),(12,vk),(14,vl),(15,.int .i64 had),(20,.int .i64 (((rings+1:Nat):Int))),(21,.int .i64 i)] a'->FL l Stop a' k cs w') :
  FL l Stop a (.inRegion (n6 28) [6,7,8,9,10,11] :: .code (.seq (.seq (rf 29) (.cond (.tmp 176) (P2 30) .skip)) (rf 31))::k) cs w:=by
 refine a2I (ops:=n6 28) (i:=6) (T:=167) (t1:=161) (t2:=168) (t3:=169) (t4:=22) (t5:=23) hft hko ⟨_,rfl,rfl,rfl,rfl⟩ ⟨_,rfl,rfl,rfl,rfl⟩ ⟨_,rfl,rfl,rfl,rfl⟩ ⟨_,rfl,rfl,rfl,rfl⟩ ⟨_,rfl,rfl,rfl,rfl⟩ ⟨_,rfl,rfl,rfl,rfl⟩ (by decide) (by decide) hA (λa w2 hG hX hA=>?_);replace hA:=hA.low 42 rfl;have c3:∀ d,(w2.at d).cell? ⟨w.heap.size,3,none⟩=some (.int .i64 0):=λd=>by show w2.cell? _=_;simp [World.cell?,hX]
 refine Br.b8 ?_;refine Br.b8 ?_;refine g9 (ops:=n6 29) (n:=29) (il:=[0,1,2,3,4,5,6]) (by kernel_rfl) ?_;refine ns 3 hA rfl (λa hA=>?_);refine v6 (v:=.pointer (some ⟨w.heap.size,3,none⟩)) (op:=.fieldAddr 70 (.tmp 22) 1) hA rfl rfl rfl rfl rfl rfl rfl rfl rfl rfl rfl (λo hop d=>by unfold execOp;simp only [hop,hA.g 22 rfl];go_simp) (λa hA=>?_);refine v6 (v:=.int .i64 0) (op:=.load 26 (.tmp 173)) hA rfl rfl rfl rfl rfl rfl rfl rfl rfl rfl rfl (λo hop d=>by have z0:=c3 d;unfold execOp;simp only [hop,hA.g 173 rfl];go_simp) (λa hA=>?_);refine v6 (v:=.bool false) (op:=.binOp .neq 26 (.tmp 174) (.const (.int .i64 0)) 26) hA rfl rfl rfl rfl rfl rfl rfl (by kernel_rfl) rfl rfl rfl (λo hop d=>by unfold execOp;simp only [hop,hA.g 174 rfl];go_simp) (λa hA=>?_);refine ns 1 hA rfl (λa hA=>?_);refine Br.a9 ?_;refine Br.t7 (t:=false) (hA.get rfl) ?_;refine Br.l9 ?_;refine g9 (ops:=n6 31) (n:=31) (il:=[0,1,2]) (by kernel_rfl) ?_;refine ns 1 hA rfl (λa hA=>?_);refine nop (v:=.int .i64 (((rings+1:Nat):Int))) (op:=.binOp .add 3 (.tmp 177) (.const (.int .i64 1)) 3) hA rfl rfl rfl rfl rfl rfl rfl (λo hop d=>by have z0:IntKind.i64.wrap ((rings:Int)+1)=((rings+1:Nat):Int):=(by rw [IntKind.wrap_i64];omega);unfold execOp;simp only [hop,hA.g 177 rfl];go_simp) (λa hA=>?_);refine wt (v:=.int .i64 (((rings+1:Nat):Int))) hA rfl rfl rfl (hA.get rfl) rfl rfl (λa hA=>?_);refine Br.a9 ?_;replace hA:=hA.low 42 rfl;exact hn a w2 hG (hA.cut ⟨rfl,rfl,rfl,rfl,rfl,rfl,rfl,rfl,trivial⟩)
theorem c1p {l:List OpD}{Stop:Goroutine->World->Prop}{w:World}{vf vc vk vl:Value}{had rings i cB:Nat}(hi:i<100){a:Act}(hA:Lvs 418 [(3,vf),(4,vc),(5,.pointer (some ⟨cB,0,none⟩)),(12,vk),(14,vl),(15,.int .i64 had),(20,.int .i64 rings),(21,.int .i64 i)] a)(k:List Item)(cs:List Frame)
  (hn:∀ a',Lvs 418 [(3,vf),(4,vc),(5,.pointer (some ⟨cB,0,none⟩)),(12,vk),(14,vl),(15,.int .i64 had),(20,.int .i64 rings),(21,.int .i64 (((i+1:Nat):Int)))] a'->FL l Stop a' (.code B1::.inLoop B1::.inBlock 4::.code L4::k) cs w) :
  FL l Stop a (.inBlock 5::.code (rf 26)::.inLoop B1::.inBlock 4::.code L4::k) cs w:=by
 refine Br.U3 ?_;refine g9 (ops:=n6 26) (n:=26) (il:=[0,1,2]) (by kernel_rfl) ?_;refine ns 1 hA rfl (λa hA=>?_);refine nop (v:=.int .i64 (((i+1:Nat):Int))) (op:=.binOp .add 3 (.tmp 146) (.const (.int .i64 1)) 3) hA rfl rfl rfl rfl rfl rfl rfl (λo hop d=>by have z0:IntKind.i64.wrap ((i:Int)+1)=((i+1:Nat):Int):=(by rw [IntKind.wrap_i64];omega);unfold execOp;simp only [hop,hA.g 146 rfl];go_simp) (λa hA=>?_);refine wt (v:=.int .i64 (((i+1:Nat):Int))) hA rfl rfl rfl (hA.get rfl) rfl rfl (λa hA=>?_);refine Br.a9 ?_;refine Br.X3 ?_;exact hn a (hA.cut ⟨rfl,rfl,rfl,rfl,rfl,rfl,rfl,rfl,trivial⟩)
section
variable {sz:Nat} {env:List (Nat × Value)} {a a':Act} {ops:Array Oper} {V:Nat->Value} {listed:Array Bool} {i j t:Nat} {o:Oper} {op:Op} {w:World} {v:Value} {x y:Bool} {X:Operand}
def a0F (ops:Array Oper)(sz i j t:Nat):Bool:=match ops[i]?,ops[j]? with
 | some o,some oj=>(o.after.any λe=>Region.binds .any e && e.on == j) && oj.dst == some t && Nat.blt t sz
 | _,_=>false
def a3n (ops:Array Oper)(t:Nat):Bool:=(List.range ops.size).all λi=>((ops[i]?).map (λo=>o.dst != some t)).getD true
theorem a5V (h:a0F ops sz i j t=true):∃ o oj,ops[i]?=some o/\ops[j]?=some oj/\(o.after.any λe=>Region.binds .any e && e.on == j)=true/\oj.dst=some t/\t<sz:=by
 unfold a0F at h;split at h
 ·next o oj h1 h2 =>
  simp only [Bool.and_eq_true,beq_iff_eq] at h;exact ⟨o,oj,h1,h2,h.1.1,h.1.2,by simpa using h.2⟩
 ·cases h
theorem a4N (hA:Lvs sz env a)(hG:Br.Agr ops V a.tmps listed a')(hr:i∈Region.ready .any ops listed)(h:a0F ops sz i j t=true)(hv:V j=v):a'.eval (.tmp t)=v:=by
 obtain ⟨o,oj,h1,h2,h3,h4,h5⟩:=a5V h;exact b8u hA hG hr h1 h3 h2 h4 h5 hv
theorem a2J (hA:Lvs sz env a)(hG:Br.Agr ops V a.tmps listed a')(h:a3n ops t=true)(hv:env.lookup t=some v):a'.eval (.tmp t)=v:=b5A hA hG h hv
theorem a3L (hA:Lvs sz env a)(hG:Br.Agr ops V a.tmps listed a')(hr:i∈Region.ready .any ops listed)(ho:ops[i]?=some o)(hg:o.guard=some (j,y))(h:a0F ops sz i j t=true)(hv:V j=.bool x):Region.wanted o (yielded ops a'.tmps)=(x == y):=by
 obtain ⟨o',oj,h1,h2,h3,h4,h5⟩:=a5V h;rw [ho] at h1;obtain rfl:=Option.some.inj h1;exact b1a hA hG hr ho hg h3 h2 h4 h5 hv
abbrev Dr (ops:Array Oper)(i:Nat)(a':Act)(w:World)(v:Value):Prop:=∃ o,ops[i]?=some o/\((Region.wanted o (yielded ops a'.tmps)=false/\v=undef)\/(Region.wanted o (yielded ops a'.tmps)=true/\Br.Y6 Tryd.prog (λ_=>false) [] false o.op=true/\∀ d,(execOp a'.eval o).run Tryd.prog (w.at d)=.ok (.value v) (w.at d)))
theorem dop (ho:ops[i]?=some o)(hg:o.guard=none)(hop:o.op=op)(hok:Br.Y6 Tryd.prog (λ_=>false) [] false op=true)(hv:∀ o':Oper,o'.op=op->∀ d,(execOp a'.eval o').run Tryd.prog (w.at d)=.ok (.value v) (w.at d)):Dr ops i a' w v:=⟨o,ho,.inr ⟨C6 hg,by rw [hop];exact hok,hv o hop⟩⟩
theorem D6 (ho:ops[i]?=some o)(hw:Region.wanted o (yielded ops a'.tmps)=true)(hop:o.op=op)(hok:Br.Y6 Tryd.prog (λ_=>false) [] false op=true)(hv:∀ o':Oper,o'.op=op->∀ d,(execOp a'.eval o').run Tryd.prog (w.at d)=.ok (.value v) (w.at d)):Dr ops i a' w v:=⟨o,ho,.inr ⟨hw,by rw [hop];exact hok,hv o hop⟩⟩
end
section
variable {sz:Nat} {env:a2X} {a a':Act} {ops:Array Oper} {V:Nat->Value} {listed:Array Bool} {i:Nat} {w:World}
def rdO (ops:Array Oper)(V:Nat->Value)(sz i t:Nat):List Nat->Option Value
 | []=>none
 | j::r=>match a0F ops sz i j t with
  | true=>some (V j)
  | false=>rdO ops V sz i t r
def rdD (ops:Array Oper)(V:Nat->Value)(env:a2X)(sz i:Nat)(o:Oper):Operand->Option Value
 | .tmp t=>match a3n ops t with
  | true=>env.lookup t
  | false=>rdO ops V sz i t (o.after.toList.map (·.on))
 | .const c=>some c
 | _=>none
def b5E (ops:Array Oper)(V:Nat->Value)(sz i:Nat)(o:Oper):Option Bool:=match o.guard with
 | none=>some true
 | some (j,y)=>match ops[j]? with
  | some oj=>match oj.dst with
   | some t=>match a0F ops sz i j t with
    | true=>match V j with
     | .bool x=>some (x == y)
     | _=>some false
    | false=>none
   | none=>none
  | none=>none
def c1q (ops:Array Oper)(V:Nat->Value)(env:a2X)(sz i:Nat):Option Value:=match ops[i]? with
 | some o=>match b5E ops V sz i o with
  | some true=>b3z (rdD ops V env sz i o) o.op
  | some false=>some undef
  | none=>none
 | none=>none
theorem a9B (hA:Lvs sz env a)(hG:Br.Agr ops V a.tmps listed a')(hr:i∈Region.ready .any ops listed){t:Nat}{v:Value}:∀ {l:List Nat},rdO ops V sz i t l=some v->a'.eval (.tmp t)=v
 | [],h=>by cases h
 | j::r,h=>by
  unfold rdO at h;split at h
  ·next ho=>exact a4N hA hG hr ho (Option.some.inj h)
  ·exact a9B hA hG hr h
theorem a9C (hA:Lvs sz env a)(hG:Br.Agr ops V a.tmps listed a')(hr:i∈Region.ready .any ops listed){o:Oper}(ho:ops[i]?=some o){b:Bool}(h:b5E ops V sz i o=some b):Region.wanted o (yielded ops a'.tmps)=b:=by
 unfold b5E at h;split at h
 ·next hg=>rw [C6 hg];exact Option.some.inj h
 ·next j y hg =>
  split at h
  ·next oj hj =>
   split at h
   ·next t ht =>
    split at h
    ·next hw =>
     split at h
     ·next x hx=>rw [a3L hA hG hr ho hg hw hx];exact Option.some.inj h
     ·next hx =>
      obtain rfl:=Option.some.inj h;obtain ⟨o',oj',h1,h2,h3,h4,h5⟩:=a5V hw;rw [hj] at h2;obtain rfl:=Option.some.inj h2;rw [ho] at h1;obtain rfl:=Option.some.inj h1;have e:=hG.done j oj t hj h4 (Br.f9 hr ho h3) (by rw [hA.size];exact h5);unfold Region.wanted;rw [hg];simp only [yielded,hj,Option.bind_some,h4,e];split
      ·next b hb=>exact absurd (Option.some.inj hb) (hx b)
      ·rfl
    ·cases h
   ·cases h
  ·cases h
theorem dS (hA:Lvs sz env a)(hG:Br.Agr ops V a.tmps listed a')(hr:i∈Region.ready .any ops listed)(h:c1q ops V env sz i=some (V i)):Dr ops i a' w (V i):=by
 unfold c1q at h;split at h
 ·next o ho =>
  split at h
  ·next hw =>
   refine ⟨o,ho,.inr ⟨a9C hA hG hr ho hw,okR h,λd=>a9S (λx v hx=>?_) h _⟩⟩;unfold rdD at hx;split at hx
   ·split at hx
    ·next hb=>exact a2J hA hG hb hx
    ·exact a9B hA hG hr hx
   ·exact Option.some.inj hx
   ·cases hx
  ·next hw=>exact ⟨o,ho,.inl ⟨a9C hA hG hr ho hw,(Option.some.inj h).symm⟩⟩
  ·cases h
 ·cases h
end
end Go.Proofs.YtcgabodkegcpgaaDoor
namespace Go.Proofs.YtcgabodkegcpgaaDoor
theorem b2y (K:Ker)(i c:Nat)(v:Int):(K.setS i c v).F=K.F:=rfl
theorem b2z (K:Ker)(i c:Nat)(v:Int):(K.setS i c v).S=upd K.S i c v:=rfl
theorem b8A (K:Ker)(i c:Nat)(v:Int):(K.setS i c v).B=K.B:=rfl
theorem b2A (K:Ker)(i c:Nat)(v:Int):(K.setS i c v).D=K.D:=rfl
theorem b8B (K:Ker)(i c:Nat)(v:Int):(K.setD i c v).D=upd K.D i c v:=rfl
end Go.Proofs.YtcgabodkegcpgaaDoor
