/- Sends: the pieces of a turn of its loop, and its end. -/
import Derived.Test.YtcgabodkegcpgaaDoorSna
set_option linter.unusedVariables false
set_option linter.unusedSimpArgs false
set_option maxHeartbeats 20000000
set_option maxRecDepth 100000
namespace Go.Proofs.YtcgabodkegcpgaaDoor
open Go.Conc Go.RowKit
open Br (X OpD KO SO SP sfO Lk Fit Must DL Liv Clear)
theorem sn_head0 {l:List OpD}{Stop:Goroutine→World→Prop}{w:World}{wa:Option Addr}{wl wc yg yo yl yc at_ got i bz:Nat}{vk vl:Value}(hi:i<yl)(hy:w.cell? ⟨yg,yo+i,none⟩=some (.bool false)){a:Act}(hA:Lvs 219 (snE (.slice wa wl wc) (.slice (some ⟨yg,yo,none⟩) yl yc) vk vl at_ got bz i []) a)(k:List Item)(cs:List Frame)
  (hn:∀ a',Lvs 219 (snE (.slice wa wl wc) (.slice (some ⟨yg,yo,none⟩) yl yc) vk vl at_ got bz i [(19,.int .i64 0)]) a'→SL l Stop a' (.code snLook::.inBlock 1::.code (rs 17)::.inLoop snLoop::.inBlock 0::.code snEnd::k) cs w) :
  SL l Stop a (.code snLoop::.inLoop snLoop::.inBlock 0::.code snEnd::k) cs w:=by
 have i0:(0:Int)≤(i:Int):=by omega
 have i1:(i:Int)<(yl:Int):=by omega
 unfold snLoop
 refine Br.liv_seq ?_
 refine Br.liv_seq ?_
 refine lg_region (ops:=snOps 16) (n:=16) (il:=[0,1,2,3,4,5,6]) (by kernel_rfl) ?_
 refine wm (v:=.int .i64 i) hA rfl rfl rfl (hA.get rfl) rfl rfl (fun a hA=>?_)
 refine wm (v:=.slice (some ⟨yg,yo,none⟩) yl yc) hA rfl rfl rfl (hA.get rfl) rfl rfl (fun a hA=>?_)
 have e93:=hA.get (t:=93) rfl
 refine lw_val (v:=.int .i64 yl) hA rfl (wanted_none rfl) (by decide) (by kernel_rfl) rfl (by decide) (fun d=>run_len rfl Tryd.underlying23 e93) (fun a hA=>?_)
 clear e93
 refine wop (v:=.bool true) (op:=.binOp .lss 3 (.tmp 92) (.tmp 94) 3) hA rfl rfl rfl rfl rfl rfl (fun o hop d=>by unfold execOp;simp only [hop,hA.get (t:=92) rfl,hA.get (t:=94) rfl];go_simp) (fun a hA=>?_)
 refine wm (v:=.bool true) hA rfl rfl rfl (hA.get rfl) rfl rfl (fun a hA=>?_)
 refine wmg (v:=.bool true) hA rfl rfl rfl rfl rfl rfl rfl (hA.get rfl) rfl rfl (fun a hA=>?_)
 refine wop (v:=.bool true) (op:=.pick (.tmp 96) (.tmp 97) (.const (.bool false))) hA rfl rfl rfl rfl rfl rfl (fun o hop d=>by unfold execOp;simp only [hop,hA.get (t:=96) rfl,hA.get (t:=97) rfl];go_simp) (fun a hA=>?_)
 refine Br.liv_region_end ?_
 replace hA:Lvs 219 ((98,.bool true)::snE (.slice wa wl wc) (.slice (some ⟨yg,yo,none⟩) yl yc) vk vl at_ got bz i []) a:=hA.cut ⟨rfl,rfl,rfl,rfl,rfl,rfl,rfl,rfl,rfl,rfl,trivial⟩
 refine Br.liv_cond (t:=true) (hA.get rfl) ?_
 refine Br.liv_skip ?_
 refine Br.liv_seq ?_
 refine Br.liv_block ?_
 unfold snTurn
 refine Br.liv_seq ?_
 refine lg_region (ops:=snOps 18) (n:=18) (il:=[0]) (by kernel_rfl) ?_
 refine wt (v:=.int .i64 0) hA rfl rfl rfl rfl rfl rfl (fun a hA=>?_)
 refine Br.liv_region_end ?_
 refine Br.liv_seq ?_
 refine Br.liv_seq ?_
 refine lg_region (ops:=snOps 19) (n:=19) (il:=[0,1,2,3]) (by kernel_rfl) ?_
 refine wm (v:=.slice (some ⟨yg,yo,none⟩) yl yc) hA rfl rfl rfl (hA.get rfl) rfl rfl (fun a hA=>?_)
 refine wm (v:=.int .i64 i) hA rfl rfl rfl (hA.get rfl) rfl rfl (fun a hA=>?_)
 refine wop (v:=.pointer (some ⟨yg,yo+i,none⟩)) (op:=.indexAddr 23 (.tmp 101) (.tmp 102)) hA rfl rfl rfl rfl rfl rfl (fun o hop d=>by unfold execOp;simp only [hop,hA.get (t:=101) rfl,hA.get (t:=102) rfl];go_simp) (fun a hA=>?_)
 refine wop (v:=.bool false) (op:=.load 4 (.tmp 103)) hA rfl rfl rfl rfl rfl rfl (fun o hop d=>by have z0:(w.at d).cell? ⟨yg,yo+i,none⟩=some (.bool false):=hy;unfold execOp;simp only [hop,hA.get (t:=103) rfl];go_simp) (fun a (hA:Lvs 219 ((104,.bool false)::(103,.pointer (some ⟨yg,yo+i,none⟩))::(102,.int .i64 i)::(101,.slice (some ⟨yg,yo,none⟩) yl yc)::(19,.int .i64 0)::(98,.bool true)::snE (.slice wa wl wc) (.slice (some ⟨yg,yo,none⟩) yl yc) vk vl at_ got bz i []) a)=>?_)
 refine Br.liv_region_end ?_
 replace hA:Lvs 219 ((104,.bool false)::(19,.int .i64 0)::snE (.slice wa wl wc) (.slice (some ⟨yg,yo,none⟩) yl yc) vk vl at_ got bz i []) a:=hA.cut ⟨rfl,rfl,rfl,rfl,rfl,rfl,rfl,rfl,rfl,rfl,rfl,trivial⟩
 refine Br.liv_cond (t:=false) (hA.get rfl) ?_
 refine Br.liv_skip ?_
 exact hn a (hA.cut ⟨rfl,rfl,rfl,rfl,rfl,rfl,rfl,rfl,rfl,rfl,trivial⟩)
theorem sn_head1 {l:List OpD}{Stop:Goroutine→World→Prop}{w:World}{wa:Option Addr}{wl wc yg yo yl yc at_ got i bz:Nat}{vk vl:Value}(hi:i<yl)(hy:w.cell? ⟨yg,yo+i,none⟩=some (.bool true)){a:Act}(hA:Lvs 219 (snE (.slice wa wl wc) (.slice (some ⟨yg,yo,none⟩) yl yc) vk vl at_ got bz i []) a)(k:List Item)(cs:List Frame)
  (hn:∀ a',Lvs 219 (snE (.slice wa wl wc) (.slice (some ⟨yg,yo,none⟩) yl yc) vk vl at_ got bz i [(19,.int .i64 1)]) a'→SL l Stop a' (.code snLook::.inBlock 1::.code (rs 17)::.inLoop snLoop::.inBlock 0::.code snEnd::k) cs w) :
  SL l Stop a (.code snLoop::.inLoop snLoop::.inBlock 0::.code snEnd::k) cs w:=by
 have i0:(0:Int)≤(i:Int):=by omega
 have i1:(i:Int)<(yl:Int):=by omega
 unfold snLoop
 refine Br.liv_seq ?_
 refine Br.liv_seq ?_
 refine lg_region (ops:=snOps 16) (n:=16) (il:=[0,1,2,3,4,5,6]) (by kernel_rfl) ?_
 refine wm (v:=.int .i64 i) hA rfl rfl rfl (hA.get rfl) rfl rfl (fun a hA=>?_)
 refine wm (v:=.slice (some ⟨yg,yo,none⟩) yl yc) hA rfl rfl rfl (hA.get rfl) rfl rfl (fun a hA=>?_)
 have e93:=hA.get (t:=93) rfl
 refine lw_val (v:=.int .i64 yl) hA rfl (wanted_none rfl) (by decide) (by kernel_rfl) rfl (by decide) (fun d=>run_len rfl Tryd.underlying23 e93) (fun a hA=>?_)
 clear e93
 refine wop (v:=.bool true) (op:=.binOp .lss 3 (.tmp 92) (.tmp 94) 3) hA rfl rfl rfl rfl rfl rfl (fun o hop d=>by unfold execOp;simp only [hop,hA.get (t:=92) rfl,hA.get (t:=94) rfl];go_simp) (fun a hA=>?_)
 refine wm (v:=.bool true) hA rfl rfl rfl (hA.get rfl) rfl rfl (fun a hA=>?_)
 refine wmg (v:=.bool true) hA rfl rfl rfl rfl rfl rfl rfl (hA.get rfl) rfl rfl (fun a hA=>?_)
 refine wop (v:=.bool true) (op:=.pick (.tmp 96) (.tmp 97) (.const (.bool false))) hA rfl rfl rfl rfl rfl rfl (fun o hop d=>by unfold execOp;simp only [hop,hA.get (t:=96) rfl,hA.get (t:=97) rfl];go_simp) (fun a hA=>?_)
 refine Br.liv_region_end ?_
 replace hA:Lvs 219 ((98,.bool true)::snE (.slice wa wl wc) (.slice (some ⟨yg,yo,none⟩) yl yc) vk vl at_ got bz i []) a:=hA.cut ⟨rfl,rfl,rfl,rfl,rfl,rfl,rfl,rfl,rfl,rfl,trivial⟩
 refine Br.liv_cond (t:=true) (hA.get rfl) ?_
 refine Br.liv_skip ?_
 refine Br.liv_seq ?_
 refine Br.liv_block ?_
 unfold snTurn
 refine Br.liv_seq ?_
 refine lg_region (ops:=snOps 18) (n:=18) (il:=[0]) (by kernel_rfl) ?_
 refine wt (v:=.int .i64 0) hA rfl rfl rfl rfl rfl rfl (fun a hA=>?_)
 refine Br.liv_region_end ?_
 refine Br.liv_seq ?_
 refine Br.liv_seq ?_
 refine lg_region (ops:=snOps 19) (n:=19) (il:=[0,1,2,3]) (by kernel_rfl) ?_
 refine wm (v:=.slice (some ⟨yg,yo,none⟩) yl yc) hA rfl rfl rfl (hA.get rfl) rfl rfl (fun a hA=>?_)
 refine wm (v:=.int .i64 i) hA rfl rfl rfl (hA.get rfl) rfl rfl (fun a hA=>?_)
 refine wop (v:=.pointer (some ⟨yg,yo+i,none⟩)) (op:=.indexAddr 23 (.tmp 101) (.tmp 102)) hA rfl rfl rfl rfl rfl rfl (fun o hop d=>by unfold execOp;simp only [hop,hA.get (t:=101) rfl,hA.get (t:=102) rfl];go_simp) (fun a hA=>?_)
 refine wop (v:=.bool true) (op:=.load 4 (.tmp 103)) hA rfl rfl rfl rfl rfl rfl (fun o hop d=>by have z0:(w.at d).cell? ⟨yg,yo+i,none⟩=some (.bool true):=hy;unfold execOp;simp only [hop,hA.get (t:=103) rfl];go_simp) (fun a (hA:Lvs 219 ((104,.bool true)::(103,.pointer (some ⟨yg,yo+i,none⟩))::(102,.int .i64 i)::(101,.slice (some ⟨yg,yo,none⟩) yl yc)::(19,.int .i64 0)::(98,.bool true)::snE (.slice wa wl wc) (.slice (some ⟨yg,yo,none⟩) yl yc) vk vl at_ got bz i []) a)=>?_)
 refine Br.liv_region_end ?_
 replace hA:Lvs 219 ((104,.bool true)::(19,.int .i64 0)::snE (.slice wa wl wc) (.slice (some ⟨yg,yo,none⟩) yl yc) vk vl at_ got bz i []) a:=hA.cut ⟨rfl,rfl,rfl,rfl,rfl,rfl,rfl,rfl,rfl,rfl,rfl,trivial⟩
 refine Br.liv_cond (t:=true) (hA.get rfl) ?_
 refine lg_region (ops:=snOps 20) (n:=20) (il:=[0]) (by kernel_rfl) ?_
 refine wt (v:=.int .i64 1) hA rfl rfl rfl rfl rfl rfl (fun a hA=>?_)
 refine Br.liv_region_end ?_
 exact hn a (hA.cut ⟨rfl,rfl,rfl,rfl,rfl,rfl,rfl,rfl,rfl,rfl,trivial⟩)
theorem sn_none {l:List OpD}{Stop:Goroutine→World→Prop}{w:World}{wa ya:Option Addr}{wl wc yl yc at_ got i bz:Nat}{vk vl:Value}{b0 b1:Bool}(hl:at_=wl)(hB:w.heap[bz]?=some (.cells #[.bool false,.bool b1] 77 (0,0))){a:Act}(hA:Lvs 219 (snE (.slice wa wl wc) (.slice ya yl yc) vk vl at_ got bz i [(19,.int .i64 0)]) a)(k:List Item)(cs:List Frame)
  (hn:∀ a',Lvs 219 (snE (.slice wa wl wc) (.slice ya yl yc) vk vl at_ got bz i [(19,.int .i64 0)]) a'→SL l Stop a' (.code (rs 17)::.inLoop snLoop::.inBlock 0::.code snEnd::k) cs w) :
  SL l Stop a (.code snLook::.inBlock 1::.code (rs 17)::.inLoop snLoop::.inBlock 0::.code snEnd::k) cs w:=by
 have cz:∀ d,(w.at d).cell? ⟨bz,0,none⟩=some (.bool false):=fun d=>by show w.cell? _=_;simp [World.cell?,hB]
 unfold snLook
 refine Br.liv_seq ?_
 refine Br.liv_seq ?_
 refine lg_region (ops:=snOps 21) (n:=21) (il:=[0,1,2,3,4,5,6,7,8,9,10,11,12,13]) (by kernel_rfl) ?_
 refine wm (v:=.int .i64 0) hA rfl rfl rfl (hA.get rfl) rfl rfl (fun a hA=>?_)
 refine wop (v:=.pointer (some ⟨bz,0,none⟩)) (op:=.indexAddr 77 (.tmp 17) (.tmp 105)) hA rfl rfl rfl rfl rfl rfl (fun o hop d=>by unfold execOp;simp only [hop,hA.get (t:=17) rfl,hA.get (t:=105) rfl];go_simp) (fun a hA=>?_)
 refine wop (v:=.bool false) (op:=.load 4 (.tmp 106)) hA rfl rfl rfl rfl rfl rfl (fun o hop d=>by have z0:=cz d;unfold execOp;simp only [hop,hA.get (t:=106) rfl];go_simp) (fun a hA=>?_)
 refine wop (v:=.bool true) (op:=.unOp .not 4 (.tmp 107)) hA rfl rfl rfl rfl rfl rfl (fun o hop d=>by unfold execOp;simp only [hop,hA.get (t:=107) rfl];go_simp) (fun a hA=>?_)
 refine wm (v:=.bool true) hA rfl rfl rfl (hA.get rfl) rfl rfl (fun a hA=>?_)
 refine wmg (v:=.int .i64 0) hA rfl rfl rfl rfl rfl rfl rfl (hA.get rfl) rfl rfl (fun a hA=>?_)
 refine wopg (v:=.bool true) (op:=.binOp .eql 3 (.tmp 110) (.const (.int .i64 0)) 3) hA rfl rfl rfl rfl rfl rfl rfl (by kernel_rfl) rfl rfl (fun o hop d=>by unfold execOp;simp only [hop,hA.get (t:=110) rfl];go_simp) (fun a hA=>?_)
 refine wop (v:=.bool true) (op:=.pick (.tmp 109) (.tmp 111) (.const (.bool false))) hA rfl rfl rfl rfl rfl rfl (fun o hop d=>by unfold execOp;simp only [hop,hA.get (t:=109) rfl,hA.get (t:=111) rfl];go_simp) (fun a hA=>?_)
 refine wm (v:=.bool true) hA rfl rfl rfl (hA.get rfl) rfl rfl (fun a hA=>?_)
 refine wmg (v:=.int .i64 at_) hA rfl rfl rfl rfl rfl rfl rfl (hA.get rfl) rfl rfl (fun a hA=>?_)
 refine wmg (v:=.slice wa wl wc) hA rfl rfl rfl rfl rfl rfl rfl (hA.get rfl) rfl rfl (fun a hA=>?_)
 have e115:=hA.get (t:=115) rfl
 refine lw_val (v:=.int .i64 wl) hA rfl ((hA.wanted (x:=true) rfl rfl rfl rfl).trans rfl) (by decide) (by kernel_rfl) rfl (by decide) (fun d=>run_len rfl Tryd.underlying22 e115) (fun a (hA:Lvs 219 ((116,.int .i64 wl)::(115,.slice wa wl wc)::(114,.int .i64 at_)::(113,.bool true)::(112,.bool true)::(111,.bool true)::(110,.int .i64 0)::(109,.bool true)::(108,.bool true)::(107,.bool false)::(106,.pointer (some ⟨bz,0,none⟩))::(105,.int .i64 0)::snE (.slice wa wl wc) (.slice ya yl yc) vk vl at_ got bz i [(19,.int .i64 0)]) a)=>?_)
 clear e115
 refine wopg (v:=.bool true) (op:=.binOp .eql 3 (.tmp 114) (.tmp 116) 3) hA rfl rfl rfl rfl rfl rfl rfl (by kernel_rfl) rfl rfl (fun o hop d=>by have z0:(at_:Int)=(wl:Int):=(by omega);unfold execOp;simp only [hop,hA.get (t:=114) rfl,hA.get (t:=116) rfl];go_simp) (fun a hA=>?_)
 replace hA:Lvs 219 ((117,.bool true)::(113,.bool true)::snE (.slice wa wl wc) (.slice ya yl yc) vk vl at_ got bz i [(19,.int .i64 0)]) a:=hA.cut ⟨rfl,rfl,rfl,rfl,rfl,rfl,rfl,rfl,rfl,rfl,rfl,rfl,trivial⟩
 refine wop (v:=.bool true) (op:=.pick (.tmp 113) (.tmp 117) (.const (.bool false))) hA rfl rfl rfl rfl rfl rfl (fun o hop d=>by unfold execOp;simp only [hop,hA.get (t:=113) rfl,hA.get (t:=117) rfl];go_simp) (fun a hA=>?_)
 refine Br.liv_region_end ?_
 replace hA:Lvs 219 ((118,.bool true)::(19,.int .i64 0)::snE (.slice wa wl wc) (.slice ya yl yc) vk vl at_ got bz i []) a:=hA.cut ⟨rfl,rfl,rfl,rfl,rfl,rfl,rfl,rfl,rfl,rfl,rfl,trivial⟩
 refine Br.liv_cond (t:=true) (hA.get rfl) ?_
 refine Br.liv_exit (k':=.code (rs 17)::.inLoop snLoop::.inBlock 0::.code snEnd::k) (by rfl) ?_
 exact hn a (hA.cut ⟨rfl,rfl,rfl,rfl,rfl,rfl,rfl,rfl,rfl,rfl,trivial⟩)
theorem sn_put {l:List OpD}{Stop:Goroutine→World→Prop}{w:World}{wa ya:Option Addr}{wl wc yl yc at_ got i bz:Nat}{vk vl:Value}{b0 b1:Bool}(hl:at_≠wl)(hB:w.heap[bz]?=some (.cells #[.bool false,.bool b1] 77 (0,0))){a:Act}(hA:Lvs 219 (snE (.slice wa wl wc) (.slice ya yl yc) vk vl at_ got bz i [(19,.int .i64 0)]) a)(k:List Item)(cs:List Frame)
  (hn:∀ a',Lvs 219 (snE (.slice wa wl wc) (.slice ya yl yc) vk vl at_ got bz i [(19,.int .i64 0)]) a'→SL l Stop a' (.code snBegin::.code snPick::.inBlock 1::.code (rs 17)::.inLoop snLoop::.inBlock 0::.code snEnd::k) cs w) :
  SL l Stop a (.code snLook::.inBlock 1::.code (rs 17)::.inLoop snLoop::.inBlock 0::.code snEnd::k) cs w:=by
 have cz:∀ d,(w.at d).cell? ⟨bz,0,none⟩=some (.bool false):=fun d=>by show w.cell? _=_;simp [World.cell?,hB]
 unfold snLook
 refine Br.liv_seq ?_
 refine Br.liv_seq ?_
 refine lg_region (ops:=snOps 21) (n:=21) (il:=[0,1,2,3,4,5,6,7,8,9,10,11,12,13]) (by kernel_rfl) ?_
 refine wm (v:=.int .i64 0) hA rfl rfl rfl (hA.get rfl) rfl rfl (fun a hA=>?_)
 refine wop (v:=.pointer (some ⟨bz,0,none⟩)) (op:=.indexAddr 77 (.tmp 17) (.tmp 105)) hA rfl rfl rfl rfl rfl rfl (fun o hop d=>by unfold execOp;simp only [hop,hA.get (t:=17) rfl,hA.get (t:=105) rfl];go_simp) (fun a hA=>?_)
 refine wop (v:=.bool false) (op:=.load 4 (.tmp 106)) hA rfl rfl rfl rfl rfl rfl (fun o hop d=>by have z0:=cz d;unfold execOp;simp only [hop,hA.get (t:=106) rfl];go_simp) (fun a hA=>?_)
 refine wop (v:=.bool true) (op:=.unOp .not 4 (.tmp 107)) hA rfl rfl rfl rfl rfl rfl (fun o hop d=>by unfold execOp;simp only [hop,hA.get (t:=107) rfl];go_simp) (fun a hA=>?_)
 refine wm (v:=.bool true) hA rfl rfl rfl (hA.get rfl) rfl rfl (fun a hA=>?_)
 refine wmg (v:=.int .i64 0) hA rfl rfl rfl rfl rfl rfl rfl (hA.get rfl) rfl rfl (fun a hA=>?_)
 refine wopg (v:=.bool true) (op:=.binOp .eql 3 (.tmp 110) (.const (.int .i64 0)) 3) hA rfl rfl rfl rfl rfl rfl rfl (by kernel_rfl) rfl rfl (fun o hop d=>by unfold execOp;simp only [hop,hA.get (t:=110) rfl];go_simp) (fun a hA=>?_)
 refine wop (v:=.bool true) (op:=.pick (.tmp 109) (.tmp 111) (.const (.bool false))) hA rfl rfl rfl rfl rfl rfl (fun o hop d=>by unfold execOp;simp only [hop,hA.get (t:=109) rfl,hA.get (t:=111) rfl];go_simp) (fun a hA=>?_)
 refine wm (v:=.bool true) hA rfl rfl rfl (hA.get rfl) rfl rfl (fun a hA=>?_)
 refine wmg (v:=.int .i64 at_) hA rfl rfl rfl rfl rfl rfl rfl (hA.get rfl) rfl rfl (fun a hA=>?_)
 refine wmg (v:=.slice wa wl wc) hA rfl rfl rfl rfl rfl rfl rfl (hA.get rfl) rfl rfl (fun a hA=>?_)
 have e115:=hA.get (t:=115) rfl
 refine lw_val (v:=.int .i64 wl) hA rfl ((hA.wanted (x:=true) rfl rfl rfl rfl).trans rfl) (by decide) (by kernel_rfl) rfl (by decide) (fun d=>run_len rfl Tryd.underlying22 e115) (fun a (hA:Lvs 219 ((116,.int .i64 wl)::(115,.slice wa wl wc)::(114,.int .i64 at_)::(113,.bool true)::(112,.bool true)::(111,.bool true)::(110,.int .i64 0)::(109,.bool true)::(108,.bool true)::(107,.bool false)::(106,.pointer (some ⟨bz,0,none⟩))::(105,.int .i64 0)::snE (.slice wa wl wc) (.slice ya yl yc) vk vl at_ got bz i [(19,.int .i64 0)]) a)=>?_)
 clear e115
 refine wopg (v:=.bool false) (op:=.binOp .eql 3 (.tmp 114) (.tmp 116) 3) hA rfl rfl rfl rfl rfl rfl rfl (by kernel_rfl) rfl rfl (fun o hop d=>by have z0:¬ (at_:Int)=(wl:Int):=(by omega);unfold execOp;simp only [hop,hA.get (t:=114) rfl,hA.get (t:=116) rfl];go_simp) (fun a hA=>?_)
 replace hA:Lvs 219 ((117,.bool false)::(113,.bool true)::snE (.slice wa wl wc) (.slice ya yl yc) vk vl at_ got bz i [(19,.int .i64 0)]) a:=hA.cut ⟨rfl,rfl,rfl,rfl,rfl,rfl,rfl,rfl,rfl,rfl,rfl,rfl,trivial⟩
 refine wop (v:=.bool false) (op:=.pick (.tmp 113) (.tmp 117) (.const (.bool false))) hA rfl rfl rfl rfl rfl rfl (fun o hop d=>by unfold execOp;simp only [hop,hA.get (t:=113) rfl,hA.get (t:=117) rfl];go_simp) (fun a hA=>?_)
 refine Br.liv_region_end ?_
 replace hA:Lvs 219 ((118,.bool false)::(19,.int .i64 0)::snE (.slice wa wl wc) (.slice ya yl yc) vk vl at_ got bz i []) a:=hA.cut ⟨rfl,rfl,rfl,rfl,rfl,rfl,rfl,rfl,rfl,rfl,rfl,trivial⟩
 refine Br.liv_cond (t:=false) (hA.get rfl) ?_
 refine Br.liv_skip ?_
 refine Br.liv_seq ?_
 refine Br.liv_seq ?_
 refine lg_region (ops:=snOps 22) (n:=22) (il:=[0,1,2,3]) (by kernel_rfl) ?_
 refine wm (v:=.int .i64 0) hA rfl rfl rfl (hA.get rfl) rfl rfl (fun a hA=>?_)
 refine wop (v:=.pointer (some ⟨bz,0,none⟩)) (op:=.indexAddr 77 (.tmp 17) (.tmp 119)) hA rfl rfl rfl rfl rfl rfl (fun o hop d=>by unfold execOp;simp only [hop,hA.get (t:=17) rfl,hA.get (t:=119) rfl];go_simp) (fun a hA=>?_)
 refine wop (v:=.bool false) (op:=.load 4 (.tmp 120)) hA rfl rfl rfl rfl rfl rfl (fun o hop d=>by have z0:=cz d;unfold execOp;simp only [hop,hA.get (t:=120) rfl];go_simp) (fun a hA=>?_)
 refine wop (v:=.bool true) (op:=.unOp .not 4 (.tmp 121)) hA rfl rfl rfl rfl rfl rfl (fun o hop d=>by unfold execOp;simp only [hop,hA.get (t:=121) rfl];go_simp) (fun a hA=>?_)
 refine Br.liv_region_end ?_
 replace hA:Lvs 219 ((122,.bool true)::(19,.int .i64 0)::snE (.slice wa wl wc) (.slice ya yl yc) vk vl at_ got bz i []) a:=hA.cut ⟨rfl,rfl,rfl,rfl,rfl,rfl,rfl,rfl,rfl,rfl,rfl,trivial⟩
 refine Br.liv_cond (t:=true) (hA.get rfl) ?_
 exact hn a (hA.cut ⟨rfl,rfl,rfl,rfl,rfl,rfl,rfl,rfl,rfl,rfl,trivial⟩)
theorem sn_on0 {l:List OpD}{Stop:Goroutine→World→Prop}{w:World}{wa ya:Option Addr}{wl wc yl yc at_ got i bz:Nat}{vk vl:Value}{b0 b1:Bool}  (hB:w.heap[bz]?=some (.cells #[.bool true,.bool b1] 77 (0,0))){a:Act}(hA:Lvs 219 (snE (.slice wa wl wc) (.slice ya yl yc) vk vl at_ got bz i [(19,.int .i64 0)]) a)(k:List Item)(cs:List Frame)
  (hn:∀ a',Lvs 219 (snE (.slice wa wl wc) (.slice ya yl yc) vk vl at_ got bz i [(19,.int .i64 0)]) a'→SL l Stop a' (.code snPick::.inBlock 1::.code (rs 17)::.inLoop snLoop::.inBlock 0::.code snEnd::k) cs w) :
  SL l Stop a (.code snLook::.inBlock 1::.code (rs 17)::.inLoop snLoop::.inBlock 0::.code snEnd::k) cs w:=by
 have cz:∀ d,(w.at d).cell? ⟨bz,0,none⟩=some (.bool true):=fun d=>by show w.cell? _=_;simp [World.cell?,hB]
 unfold snLook
 refine Br.liv_seq ?_
 refine Br.liv_seq ?_
 refine lg_region (ops:=snOps 21) (n:=21) (il:=[0,1,2,3,4,5,6,7,8,9,10,11,12,13]) (by kernel_rfl) ?_
 refine wm (v:=.int .i64 0) hA rfl rfl rfl (hA.get rfl) rfl rfl (fun a hA=>?_)
 refine wop (v:=.pointer (some ⟨bz,0,none⟩)) (op:=.indexAddr 77 (.tmp 17) (.tmp 105)) hA rfl rfl rfl rfl rfl rfl (fun o hop d=>by unfold execOp;simp only [hop,hA.get (t:=17) rfl,hA.get (t:=105) rfl];go_simp) (fun a hA=>?_)
 refine wop (v:=.bool true) (op:=.load 4 (.tmp 106)) hA rfl rfl rfl rfl rfl rfl (fun o hop d=>by have z0:=cz d;unfold execOp;simp only [hop,hA.get (t:=106) rfl];go_simp) (fun a hA=>?_)
 refine wop (v:=.bool false) (op:=.unOp .not 4 (.tmp 107)) hA rfl rfl rfl rfl rfl rfl (fun o hop d=>by unfold execOp;simp only [hop,hA.get (t:=107) rfl];go_simp) (fun a hA=>?_)
 refine wm (v:=.bool false) hA rfl rfl rfl (hA.get rfl) rfl rfl (fun a hA=>?_)
 refine wu hA rfl rfl rfl rfl rfl rfl rfl rfl (fun a hA=>?_)
 refine wu hA rfl rfl rfl rfl rfl rfl rfl rfl (fun a hA=>?_)
 refine wop (v:=.bool false) (op:=.pick (.tmp 109) (.tmp 111) (.const (.bool false))) hA rfl rfl rfl rfl rfl rfl (fun o hop d=>by unfold execOp;simp only [hop,hA.get (t:=109) rfl,hA.get (t:=111) rfl];go_simp) (fun a hA=>?_)
 refine wm (v:=.bool false) hA rfl rfl rfl (hA.get rfl) rfl rfl (fun a hA=>?_)
 refine wu hA rfl rfl rfl rfl rfl rfl rfl rfl (fun a hA=>?_)
 refine wu hA rfl rfl rfl rfl rfl rfl rfl rfl (fun a hA=>?_)
 refine wu hA rfl rfl rfl rfl rfl rfl rfl rfl (fun a (hA:Lvs 219 ((116,undef)::(115,undef)::(114,undef)::(113,.bool false)::(112,.bool false)::(111,undef)::(110,undef)::(109,.bool false)::(108,.bool false)::(107,.bool true)::(106,.pointer (some ⟨bz,0,none⟩))::(105,.int .i64 0)::snE (.slice wa wl wc) (.slice ya yl yc) vk vl at_ got bz i [(19,.int .i64 0)]) a)=>?_)
 refine wu hA rfl rfl rfl rfl rfl rfl rfl rfl (fun a hA=>?_)
 replace hA:Lvs 219 ((117,undef)::(113,.bool false)::snE (.slice wa wl wc) (.slice ya yl yc) vk vl at_ got bz i [(19,.int .i64 0)]) a:=hA.cut ⟨rfl,rfl,rfl,rfl,rfl,rfl,rfl,rfl,rfl,rfl,rfl,rfl,trivial⟩
 refine wop (v:=.bool false) (op:=.pick (.tmp 113) (.tmp 117) (.const (.bool false))) hA rfl rfl rfl rfl rfl rfl (fun o hop d=>by unfold execOp;simp only [hop,hA.get (t:=113) rfl,hA.get (t:=117) rfl];go_simp) (fun a hA=>?_)
 refine Br.liv_region_end ?_
 replace hA:Lvs 219 ((118,.bool false)::(19,.int .i64 0)::snE (.slice wa wl wc) (.slice ya yl yc) vk vl at_ got bz i []) a:=hA.cut ⟨rfl,rfl,rfl,rfl,rfl,rfl,rfl,rfl,rfl,rfl,rfl,trivial⟩
 refine Br.liv_cond (t:=false) (hA.get rfl) ?_
 refine Br.liv_skip ?_
 refine Br.liv_seq ?_
 refine Br.liv_seq ?_
 refine lg_region (ops:=snOps 22) (n:=22) (il:=[0,1,2,3]) (by kernel_rfl) ?_
 refine wm (v:=.int .i64 0) hA rfl rfl rfl (hA.get rfl) rfl rfl (fun a hA=>?_)
 refine wop (v:=.pointer (some ⟨bz,0,none⟩)) (op:=.indexAddr 77 (.tmp 17) (.tmp 119)) hA rfl rfl rfl rfl rfl rfl (fun o hop d=>by unfold execOp;simp only [hop,hA.get (t:=17) rfl,hA.get (t:=119) rfl];go_simp) (fun a hA=>?_)
 refine wop (v:=.bool true) (op:=.load 4 (.tmp 120)) hA rfl rfl rfl rfl rfl rfl (fun o hop d=>by have z0:=cz d;unfold execOp;simp only [hop,hA.get (t:=120) rfl];go_simp) (fun a hA=>?_)
 refine wop (v:=.bool false) (op:=.unOp .not 4 (.tmp 121)) hA rfl rfl rfl rfl rfl rfl (fun o hop d=>by unfold execOp;simp only [hop,hA.get (t:=121) rfl];go_simp) (fun a hA=>?_)
 refine Br.liv_region_end ?_
 replace hA:Lvs 219 ((122,.bool false)::(19,.int .i64 0)::snE (.slice wa wl wc) (.slice ya yl yc) vk vl at_ got bz i []) a:=hA.cut ⟨rfl,rfl,rfl,rfl,rfl,rfl,rfl,rfl,rfl,rfl,rfl,trivial⟩
 refine Br.liv_cond (t:=false) (hA.get rfl) ?_
 refine Br.liv_skip ?_
 exact hn a (hA.cut ⟨rfl,rfl,rfl,rfl,rfl,rfl,rfl,rfl,rfl,rfl,trivial⟩)
theorem sn_take {l:List OpD}{Stop:Goroutine→World→Prop}{w:World}{wa ya:Option Addr}{wl wc yl yc at_ got i bz:Nat}{vk vl:Value}{b0 b1:Bool}  (hB:w.heap[bz]?=some (.cells #[.bool b0,.bool false] 77 (0,0))){a:Act}(hA:Lvs 219 (snE (.slice wa wl wc) (.slice ya yl yc) vk vl at_ got bz i [(19,.int .i64 1)]) a)(k:List Item)(cs:List Frame)
  (hn:∀ a',Lvs 219 (snE (.slice wa wl wc) (.slice ya yl yc) vk vl at_ got bz i [(19,.int .i64 1)]) a'→SL l Stop a' (.code snBegin::.code snPick::.inBlock 1::.code (rs 17)::.inLoop snLoop::.inBlock 0::.code snEnd::k) cs w) :
  SL l Stop a (.code snLook::.inBlock 1::.code (rs 17)::.inLoop snLoop::.inBlock 0::.code snEnd::k) cs w:=by
 have cz:∀ d,(w.at d).cell? ⟨bz,1,none⟩=some (.bool false):=fun d=>by show w.cell? _=_;simp [World.cell?,hB]
 unfold snLook
 refine Br.liv_seq ?_
 refine Br.liv_seq ?_
 refine lg_region (ops:=snOps 21) (n:=21) (il:=[0,1,2,3,4,5,6,7,8,9,10,11,12,13]) (by kernel_rfl) ?_
 refine wm (v:=.int .i64 1) hA rfl rfl rfl (hA.get rfl) rfl rfl (fun a hA=>?_)
 refine wop (v:=.pointer (some ⟨bz,1,none⟩)) (op:=.indexAddr 77 (.tmp 17) (.tmp 105)) hA rfl rfl rfl rfl rfl rfl (fun o hop d=>by unfold execOp;simp only [hop,hA.get (t:=17) rfl,hA.get (t:=105) rfl];go_simp) (fun a hA=>?_)
 refine wop (v:=.bool false) (op:=.load 4 (.tmp 106)) hA rfl rfl rfl rfl rfl rfl (fun o hop d=>by have z0:=cz d;unfold execOp;simp only [hop,hA.get (t:=106) rfl];go_simp) (fun a hA=>?_)
 refine wop (v:=.bool true) (op:=.unOp .not 4 (.tmp 107)) hA rfl rfl rfl rfl rfl rfl (fun o hop d=>by unfold execOp;simp only [hop,hA.get (t:=107) rfl];go_simp) (fun a hA=>?_)
 refine wm (v:=.bool true) hA rfl rfl rfl (hA.get rfl) rfl rfl (fun a hA=>?_)
 refine wmg (v:=.int .i64 1) hA rfl rfl rfl rfl rfl rfl rfl (hA.get rfl) rfl rfl (fun a hA=>?_)
 refine wopg (v:=.bool false) (op:=.binOp .eql 3 (.tmp 110) (.const (.int .i64 0)) 3) hA rfl rfl rfl rfl rfl rfl rfl (by kernel_rfl) rfl rfl (fun o hop d=>by unfold execOp;simp only [hop,hA.get (t:=110) rfl];go_simp) (fun a hA=>?_)
 refine wop (v:=.bool false) (op:=.pick (.tmp 109) (.tmp 111) (.const (.bool false))) hA rfl rfl rfl rfl rfl rfl (fun o hop d=>by unfold execOp;simp only [hop,hA.get (t:=109) rfl,hA.get (t:=111) rfl];go_simp) (fun a hA=>?_)
 refine wm (v:=.bool false) hA rfl rfl rfl (hA.get rfl) rfl rfl (fun a hA=>?_)
 refine wu hA rfl rfl rfl rfl rfl rfl rfl rfl (fun a hA=>?_)
 refine wu hA rfl rfl rfl rfl rfl rfl rfl rfl (fun a hA=>?_)
 refine wu hA rfl rfl rfl rfl rfl rfl rfl rfl (fun a (hA:Lvs 219 ((116,undef)::(115,undef)::(114,undef)::(113,.bool false)::(112,.bool false)::(111,.bool false)::(110,.int .i64 1)::(109,.bool true)::(108,.bool true)::(107,.bool false)::(106,.pointer (some ⟨bz,1,none⟩))::(105,.int .i64 1)::snE (.slice wa wl wc) (.slice ya yl yc) vk vl at_ got bz i [(19,.int .i64 1)]) a)=>?_)
 refine wu hA rfl rfl rfl rfl rfl rfl rfl rfl (fun a hA=>?_)
 replace hA:Lvs 219 ((117,undef)::(113,.bool false)::snE (.slice wa wl wc) (.slice ya yl yc) vk vl at_ got bz i [(19,.int .i64 1)]) a:=hA.cut ⟨rfl,rfl,rfl,rfl,rfl,rfl,rfl,rfl,rfl,rfl,rfl,rfl,trivial⟩
 refine wop (v:=.bool false) (op:=.pick (.tmp 113) (.tmp 117) (.const (.bool false))) hA rfl rfl rfl rfl rfl rfl (fun o hop d=>by unfold execOp;simp only [hop,hA.get (t:=113) rfl,hA.get (t:=117) rfl];go_simp) (fun a hA=>?_)
 refine Br.liv_region_end ?_
 replace hA:Lvs 219 ((118,.bool false)::(19,.int .i64 1)::snE (.slice wa wl wc) (.slice ya yl yc) vk vl at_ got bz i []) a:=hA.cut ⟨rfl,rfl,rfl,rfl,rfl,rfl,rfl,rfl,rfl,rfl,rfl,trivial⟩
 refine Br.liv_cond (t:=false) (hA.get rfl) ?_
 refine Br.liv_skip ?_
 refine Br.liv_seq ?_
 refine Br.liv_seq ?_
 refine lg_region (ops:=snOps 22) (n:=22) (il:=[0,1,2,3]) (by kernel_rfl) ?_
 refine wm (v:=.int .i64 1) hA rfl rfl rfl (hA.get rfl) rfl rfl (fun a hA=>?_)
 refine wop (v:=.pointer (some ⟨bz,1,none⟩)) (op:=.indexAddr 77 (.tmp 17) (.tmp 119)) hA rfl rfl rfl rfl rfl rfl (fun o hop d=>by unfold execOp;simp only [hop,hA.get (t:=17) rfl,hA.get (t:=119) rfl];go_simp) (fun a hA=>?_)
 refine wop (v:=.bool false) (op:=.load 4 (.tmp 120)) hA rfl rfl rfl rfl rfl rfl (fun o hop d=>by have z0:=cz d;unfold execOp;simp only [hop,hA.get (t:=120) rfl];go_simp) (fun a hA=>?_)
 refine wop (v:=.bool true) (op:=.unOp .not 4 (.tmp 121)) hA rfl rfl rfl rfl rfl rfl (fun o hop d=>by unfold execOp;simp only [hop,hA.get (t:=121) rfl];go_simp) (fun a hA=>?_)
 refine Br.liv_region_end ?_
 replace hA:Lvs 219 ((122,.bool true)::(19,.int .i64 1)::snE (.slice wa wl wc) (.slice ya yl yc) vk vl at_ got bz i []) a:=hA.cut ⟨rfl,rfl,rfl,rfl,rfl,rfl,rfl,rfl,rfl,rfl,rfl,trivial⟩
 refine Br.liv_cond (t:=true) (hA.get rfl) ?_
 exact hn a (hA.cut ⟨rfl,rfl,rfl,rfl,rfl,rfl,rfl,rfl,rfl,rfl,trivial⟩)
theorem sn_on1 {l:List OpD}{Stop:Goroutine→World→Prop}{w:World}{wa ya:Option Addr}{wl wc yl yc at_ got i bz:Nat}{vk vl:Value}{b0 b1:Bool}  (hB:w.heap[bz]?=some (.cells #[.bool b0,.bool true] 77 (0,0))){a:Act}(hA:Lvs 219 (snE (.slice wa wl wc) (.slice ya yl yc) vk vl at_ got bz i [(19,.int .i64 1)]) a)(k:List Item)(cs:List Frame)
  (hn:∀ a',Lvs 219 (snE (.slice wa wl wc) (.slice ya yl yc) vk vl at_ got bz i [(19,.int .i64 1)]) a'→SL l Stop a' (.code snPick::.inBlock 1::.code (rs 17)::.inLoop snLoop::.inBlock 0::.code snEnd::k) cs w) :
  SL l Stop a (.code snLook::.inBlock 1::.code (rs 17)::.inLoop snLoop::.inBlock 0::.code snEnd::k) cs w:=by
 have cz:∀ d,(w.at d).cell? ⟨bz,1,none⟩=some (.bool true):=fun d=>by show w.cell? _=_;simp [World.cell?,hB]
 unfold snLook
 refine Br.liv_seq ?_
 refine Br.liv_seq ?_
 refine lg_region (ops:=snOps 21) (n:=21) (il:=[0,1,2,3,4,5,6,7,8,9,10,11,12,13]) (by kernel_rfl) ?_
 refine wm (v:=.int .i64 1) hA rfl rfl rfl (hA.get rfl) rfl rfl (fun a hA=>?_)
 refine wop (v:=.pointer (some ⟨bz,1,none⟩)) (op:=.indexAddr 77 (.tmp 17) (.tmp 105)) hA rfl rfl rfl rfl rfl rfl (fun o hop d=>by unfold execOp;simp only [hop,hA.get (t:=17) rfl,hA.get (t:=105) rfl];go_simp) (fun a hA=>?_)
 refine wop (v:=.bool true) (op:=.load 4 (.tmp 106)) hA rfl rfl rfl rfl rfl rfl (fun o hop d=>by have z0:=cz d;unfold execOp;simp only [hop,hA.get (t:=106) rfl];go_simp) (fun a hA=>?_)
 refine wop (v:=.bool false) (op:=.unOp .not 4 (.tmp 107)) hA rfl rfl rfl rfl rfl rfl (fun o hop d=>by unfold execOp;simp only [hop,hA.get (t:=107) rfl];go_simp) (fun a hA=>?_)
 refine wm (v:=.bool false) hA rfl rfl rfl (hA.get rfl) rfl rfl (fun a hA=>?_)
 refine wu hA rfl rfl rfl rfl rfl rfl rfl rfl (fun a hA=>?_)
 refine wu hA rfl rfl rfl rfl rfl rfl rfl rfl (fun a hA=>?_)
 refine wop (v:=.bool false) (op:=.pick (.tmp 109) (.tmp 111) (.const (.bool false))) hA rfl rfl rfl rfl rfl rfl (fun o hop d=>by unfold execOp;simp only [hop,hA.get (t:=109) rfl,hA.get (t:=111) rfl];go_simp) (fun a hA=>?_)
 refine wm (v:=.bool false) hA rfl rfl rfl (hA.get rfl) rfl rfl (fun a hA=>?_)
 refine wu hA rfl rfl rfl rfl rfl rfl rfl rfl (fun a hA=>?_)
 refine wu hA rfl rfl rfl rfl rfl rfl rfl rfl (fun a hA=>?_)
 refine wu hA rfl rfl rfl rfl rfl rfl rfl rfl (fun a (hA:Lvs 219 ((116,undef)::(115,undef)::(114,undef)::(113,.bool false)::(112,.bool false)::(111,undef)::(110,undef)::(109,.bool false)::(108,.bool false)::(107,.bool true)::(106,.pointer (some ⟨bz,1,none⟩))::(105,.int .i64 1)::snE (.slice wa wl wc) (.slice ya yl yc) vk vl at_ got bz i [(19,.int .i64 1)]) a)=>?_)
 refine wu hA rfl rfl rfl rfl rfl rfl rfl rfl (fun a hA=>?_)
 replace hA:Lvs 219 ((117,undef)::(113,.bool false)::snE (.slice wa wl wc) (.slice ya yl yc) vk vl at_ got bz i [(19,.int .i64 1)]) a:=hA.cut ⟨rfl,rfl,rfl,rfl,rfl,rfl,rfl,rfl,rfl,rfl,rfl,rfl,trivial⟩
 refine wop (v:=.bool false) (op:=.pick (.tmp 113) (.tmp 117) (.const (.bool false))) hA rfl rfl rfl rfl rfl rfl (fun o hop d=>by unfold execOp;simp only [hop,hA.get (t:=113) rfl,hA.get (t:=117) rfl];go_simp) (fun a hA=>?_)
 refine Br.liv_region_end ?_
 replace hA:Lvs 219 ((118,.bool false)::(19,.int .i64 1)::snE (.slice wa wl wc) (.slice ya yl yc) vk vl at_ got bz i []) a:=hA.cut ⟨rfl,rfl,rfl,rfl,rfl,rfl,rfl,rfl,rfl,rfl,rfl,trivial⟩
 refine Br.liv_cond (t:=false) (hA.get rfl) ?_
 refine Br.liv_skip ?_
 refine Br.liv_seq ?_
 refine Br.liv_seq ?_
 refine lg_region (ops:=snOps 22) (n:=22) (il:=[0,1,2,3]) (by kernel_rfl) ?_
 refine wm (v:=.int .i64 1) hA rfl rfl rfl (hA.get rfl) rfl rfl (fun a hA=>?_)
 refine wop (v:=.pointer (some ⟨bz,1,none⟩)) (op:=.indexAddr 77 (.tmp 17) (.tmp 119)) hA rfl rfl rfl rfl rfl rfl (fun o hop d=>by unfold execOp;simp only [hop,hA.get (t:=17) rfl,hA.get (t:=119) rfl];go_simp) (fun a hA=>?_)
 refine wop (v:=.bool true) (op:=.load 4 (.tmp 120)) hA rfl rfl rfl rfl rfl rfl (fun o hop d=>by have z0:=cz d;unfold execOp;simp only [hop,hA.get (t:=120) rfl];go_simp) (fun a hA=>?_)
 refine wop (v:=.bool false) (op:=.unOp .not 4 (.tmp 121)) hA rfl rfl rfl rfl rfl rfl (fun o hop d=>by unfold execOp;simp only [hop,hA.get (t:=121) rfl];go_simp) (fun a hA=>?_)
 refine Br.liv_region_end ?_
 replace hA:Lvs 219 ((122,.bool false)::(19,.int .i64 1)::snE (.slice wa wl wc) (.slice ya yl yc) vk vl at_ got bz i []) a:=hA.cut ⟨rfl,rfl,rfl,rfl,rfl,rfl,rfl,rfl,rfl,rfl,rfl,trivial⟩
 refine Br.liv_cond (t:=false) (hA.get rfl) ?_
 refine Br.liv_skip ?_
 exact hn a (hA.cut ⟨rfl,rfl,rfl,rfl,rfl,rfl,rfl,rfl,rfl,rfl,trivial⟩)
theorem sn_put1 {l:List OpD}{Stop:Goroutine→World→Prop}{w:World}{ya:Option Addr}{wg wo wl wc yl yc at_ got i bz:Nat}{vk vl:Value}(hft:Fit (sfO l) w)(hko:KO l w){x:Int}(hl:at_<wl)(hx:w.cell? ⟨wg,wo+at_,none⟩=some (.int .i64 x))(hxl:wg<w.heap.size){a:Act}(hA:Lvs 219 (snE (.slice (some ⟨wg,wo,none⟩) wl wc) (.slice ya yl yc) vk vl at_ got bz i [(19,.int .i64 0)]) a)(k:List Item)(cs:List Frame)
  (hn:∀ a' w',Grown w w'→w'.heap[w.heap.size]?=some (.cells #[.int .i64 4,.int .i64 1,.int .i64 1] 38 (0,0))→Lvs 219 (snE (.slice (some ⟨wg,wo,none⟩) wl wc) (.slice ya yl yc) vk vl at_ got bz i [(19,.int .i64 0),(20,.pointer (some ⟨w.heap.size,0,none⟩))]) a'→∀ d,Stop (G (Frame.enter Tryd.prog 11 #[vk,.int .i64 0,.int .i64 19,.agg #[.int .i64 0,.int .i64 1,.int .i64 x]] .normal) ((base 8).at a' (.inRegion (snOps 26) [6] :: .code (rs 27)::.code (.seq (rs 28) snSet)::k)::cs)) (w'.at d)) :
  SL l Stop a (.code snBegin::k) cs w:=by
 have i0:(0:Int)≤(at_:Int):=by omega
 have i1:(at_:Int)<(wl:Int):=by omega
 unfold snBegin
 refine Br.liv_seq ?_
 refine lg_region (ops:=snOps 23) (n:=23) (il:=[0,1,2]) (by kernel_rfl) ?_
 refine wop (v:=.agg #[.int .i64 5,.int .i64 2,.int .i64 0]) (op:=.build 38 #[(0,.const (.int .i64 5)),(1,.const (.int .i64 2)),(2,.const (.int .i64 0))]) hA rfl rfl rfl rfl rfl rfl (fun o hop d=>by unfold execOp;simp only [hop];go_simp;try rfl) (fun a hA=>?_)
 obtain ⟨o',ho,hop,hd,hg⟩:∃ o',(snOps 23)[1]?=some o'∧o'.op=.alloc 38∧o'.dst=some 20∧o'.guard=none:=⟨_,rfl,rfl,rfl,rfl⟩
 refine lw_made (ob:=.cells #[.int .i64 0,.int .i64 0,.int .i64 0] 38 (0,0)) (v:=.pointer (some ⟨w.heap.size,0,none⟩)) hA ho hg (by decide) hd (by decide) (fun d=>by unfold execOp;simp only [hop];go_simp;try rfl) (fun d=>by unfold execOp;simp only [hop];simp [go_sem]) trivial (fun a hA=>?_)
 clear ho hop hd hg
 have hG1:=grown_alloc (w:=w) trivial (ob:=.cells #[.int .i64 0,.int .i64 0,.int .i64 0] 38 (0,0)) trivial
 have hX1:=heap_alloc_new w (.cells #[.int .i64 0,.int .i64 0,.int .i64 0] 38 (0,0))
 have hs1:(w.alloc (.cells #[.int .i64 0,.int .i64 0,.int .i64 0] 38 (0,0))).heap.size=w.heap.size+1:=by simp
 generalize w.alloc (.cells #[.int .i64 0,.int .i64 0,.int .i64 0] 38 (0,0))=w1 at *
 have hft1:Fit (sfO l) w1:=⟨fun j hj=>by
  obtain ⟨c,t,hc⟩:=hft.soft j hj
  exact ⟨c,t,by rw [hG1.old j (Array.getElem?_eq_some_iff.1 hc).1];exact hc⟩,trivial⟩
 have ea:=hA.get (t:=20) rfl
 have eb:=hA.get (t:=123) rfl
 have zn:sfO l w.heap.size=0:=Br.sfO_zero fun o ho=>by have:=Br.KO.lt hko ho;omega
 obtain ⟨o',ho,hop,hd,hg⟩:∃ o',(snOps 23)[2]?=some o'∧o'.op=.store 38 (.tmp 20) (.tmp 123)∧o'.dst=none∧o'.guard=none:=⟨_,rfl,rfl,rfl,rfl⟩
 refine lw_storeRow hA ho hg (by decide) hop hd hft1 ea eb hX1 (by rfl) (by kernel_rfl) (by kernel_rfl) zn (fun w2 hs2 hk2 hX2=>?_)
 clear ho hop hd hg ea eb
 have hG2:Grown w w2:=⟨by omega,fun j hj=>by rw [hk2 j (by omega)];exact hG1.old j hj,trivial⟩
 refine Br.liv_region_end ?_
 replace hA:Lvs 219 (snE (.slice (some ⟨wg,wo,none⟩) wl wc) (.slice ya yl yc) vk vl at_ got bz i [(19,.int .i64 0),(20,.pointer (some ⟨w.heap.size,0,none⟩))]) a:=hA.cut ⟨rfl,rfl,rfl,rfl,rfl,rfl,rfl,rfl,rfl,rfl,rfl,trivial⟩
 refine Br.liv_seq ?_
 refine Br.liv_seq ?_
 refine lg_region (ops:=snOps 24) (n:=24) (il:=[0,1]) (by kernel_rfl) ?_
 refine wm (v:=.int .i64 0) hA rfl rfl rfl (hA.get rfl) rfl rfl (fun a hA=>?_)
 refine wop (v:=.bool true) (op:=.binOp .eql 3 (.tmp 124) (.const (.int .i64 0)) 3) hA rfl rfl rfl (by kernel_rfl) rfl rfl (fun o hop d=>by unfold execOp;simp only [hop,hA.get (t:=124) rfl];go_simp) (fun a hA=>?_)
 refine Br.liv_region_end ?_
 replace hA:Lvs 219 ((125,.bool true)::snE (.slice (some ⟨wg,wo,none⟩) wl wc) (.slice ya yl yc) vk vl at_ got bz i [(19,.int .i64 0),(20,.pointer (some ⟨w.heap.size,0,none⟩))]) a:=hA.cut ⟨rfl,rfl,rfl,rfl,rfl,rfl,rfl,rfl,rfl,rfl,rfl,rfl,trivial⟩
 refine Br.liv_cond (t:=true) (hA.get rfl) ?_
 refine Br.liv_seq ?_
 refine lg_region (ops:=snOps 25) (n:=25) (il:=[0,1]) (by kernel_rfl) ?_
 refine wop (v:=.agg #[.int .i64 4,.int .i64 1,.int .i64 1]) (op:=.build 38 #[(0,.const (.int .i64 4)),(1,.const (.int .i64 1)),(2,.const (.int .i64 1))]) hA rfl rfl rfl rfl rfl rfl (fun o hop d=>by unfold execOp;simp only [hop];go_simp;try rfl) (fun a hA=>?_)
 have hft2:Fit (sfO l) w2:=⟨fun j hj=>by
  obtain ⟨c,t,hc⟩:=hft.soft j hj
  exact ⟨c,t,by rw [hG2.old j (Array.getElem?_eq_some_iff.1 hc).1];exact hc⟩,trivial⟩
 have ea:=hA.get (t:=20) rfl
 have eb:=hA.get (t:=126) rfl
 obtain ⟨o',ho,hop,hd,hg⟩:∃ o',(snOps 25)[1]?=some o'∧o'.op=.store 38 (.tmp 20) (.tmp 126)∧o'.dst=none∧o'.guard=none:=⟨_,rfl,rfl,rfl,rfl⟩
 refine lw_storeRow hA ho hg (by decide) hop hd hft2 ea eb hX2 (by rfl) (by kernel_rfl) (by kernel_rfl) zn (fun w3 hs3 hk3 hX3=>?_)
 clear ho hop hd hg ea eb
 have hG3:Grown w w3:=⟨by omega,fun j hj=>by rw [hk3 j (by omega)];exact hG2.old j hj,trivial⟩
 refine Br.liv_region_end ?_
 replace hA:Lvs 219 (snE (.slice (some ⟨wg,wo,none⟩) wl wc) (.slice ya yl yc) vk vl at_ got bz i [(19,.int .i64 0),(20,.pointer (some ⟨w.heap.size,0,none⟩))]) a:=hA.cut ⟨rfl,rfl,rfl,rfl,rfl,rfl,rfl,rfl,rfl,rfl,rfl,trivial⟩
 have cx:∀ d,(w3.at d).cell? ⟨wg,wo+at_,none⟩=some (.int .i64 x):=fun d=>(World.cell?_of_block (w:=w) (hG3.old wg hxl)).trans hx
 refine Br.liv_seq ?_
 refine lg_region (ops:=snOps 26) (n:=26) (il:=[0,1,2,3,4,5,6]) (by kernel_rfl) ?_
 refine wm (v:=vk) hA rfl rfl rfl (hA.get rfl) rfl rfl (fun a hA=>?_)
 refine wm (v:=.slice (some ⟨wg,wo,none⟩) wl wc) hA rfl rfl rfl (hA.get rfl) rfl rfl (fun a hA=>?_)
 refine wm (v:=.int .i64 at_) hA rfl rfl rfl (hA.get rfl) rfl rfl (fun a hA=>?_)
 refine wop (v:=.pointer (some ⟨wg,wo+at_,none⟩)) (op:=.indexAddr 22 (.tmp 128) (.tmp 129)) hA rfl rfl rfl rfl rfl rfl (fun o hop d=>by unfold execOp;simp only [hop,hA.get (t:=128) rfl,hA.get (t:=129) rfl];go_simp) (fun a hA=>?_)
 refine wop (v:=.int .i64 x) (op:=.load 3 (.tmp 130)) hA rfl rfl rfl rfl rfl rfl (fun o hop d=>by have z0:=cx d;unfold execOp;simp only [hop,hA.get (t:=130) rfl];go_simp) (fun a hA=>?_)
 refine wop (v:=.agg #[.int .i64 0,.int .i64 1,.int .i64 x]) (op:=.build 33 #[(0,.const (.int .i64 0)),(1,.const (.int .i64 1)),(2,.tmp 131)]) hA rfl rfl rfl rfl rfl rfl (fun o hop d=>by have z0:a.tmps[131]?.getD undef=.int .i64 x:=(by have h9:=hA.at (t:=131) rfl;simp [h9]);unfold execOp;simp only [hop,hA.get (t:=131) rfl];go_simp;try rfl) (fun a hA=>?_)
 have e127:=hA.get (t:=127) rfl
 have e132:=hA.get (t:=132) rfl
 exact lv_enter rfl rfl (by decide) rfl Tryd.func11 rfl rfl (by simp only [List.map_toArray,List.map_cons,List.map_nil,e127,e132];rfl) (hn a w3 hG3 hX3 (hA.cut ⟨rfl,rfl,rfl,rfl,rfl,rfl,rfl,rfl,rfl,rfl,rfl,trivial⟩))
theorem sn_put2 {l:List OpD}{Stop:Goroutine→World→Prop}{w:World}{wa ya:Option Addr}{wl wc yl yc at_ got i bz:Nat}{vk vl:Value}{bo:Nat}(hl:at_<4398046511104)(hO:w.heap[bo]?=some (.cells #[.int .i64 4,.int .i64 1,.int .i64 1] 38 (0,0))){v133:Value}{a:Act}(hA:Lvs 219 (snE (.slice wa wl wc) (.slice ya yl yc) vk vl at_ got bz i [(19,.int .i64 0),(20,.pointer (some ⟨bo,0,none⟩))]) a)(k:List Item)(cs:List Frame)
  (hn:∀ a',Lvs 219 [(0,.slice wa wl wc),(1,.slice ya yl yc),(5,.bool true),(6,vk),(8,vl),(15,.int .i64 (((at_+1:Nat):Int))),(16,.int .i64 got),(17,.pointer (some ⟨bz,0,none⟩)),(18,.int .i64 i),(19,.int .i64 0)] a'→∀ d,Stop (G (Frame.enter Tryd.prog 17 #[vl,.int .i64 0,.agg #[.int .i64 4,.int .i64 1,.int .i64 1]] .normal) ((base 8).at a' (.inRegion (snOps 28) [3,4] :: .code snSet::k)::cs)) (w.at d)) :
  SL l Stop a (.inRegion (snOps 26) [] :: .code (rs 27)::.code (.seq (rs 28) snSet)::k) cs w:=by
 have cell:∀ j x d,([.int .i64 4,.int .i64 1,.int .i64 1]:List Value)[j]?=some x→(w.at d).cell? ⟨bo,j,none⟩=some x:=fun j x d hx=>by
  show w.cell? _=_
  simp only [World.cell?,hO]
  simpa using hx
 refine Br.liv_region_end ?_
 refine lg_region (ops:=snOps 27) (n:=27) (il:=[0,1,2]) (by kernel_rfl) ?_
 refine wm (v:=.int .i64 at_) hA rfl rfl rfl (hA.get rfl) rfl rfl (fun a hA=>?_)
 refine wop (v:=.int .i64 (((at_+1:Nat):Int))) (op:=.binOp .add 3 (.tmp 134) (.const (.int .i64 1)) 3) hA rfl rfl rfl rfl rfl rfl (fun o hop d=>by have z0:IntKind.i64.wrap ((at_:Int)+1)=((at_+1:Nat):Int):=(by rw [IntKind.wrap_i64];omega);unfold execOp;simp only [hop,hA.get (t:=134) rfl];go_simp) (fun a hA=>?_)
 refine wt (v:=.int .i64 (((at_+1:Nat):Int))) hA rfl rfl rfl (hA.get rfl) rfl rfl (fun a hA=>?_)
 refine Br.liv_region_end ?_
 replace hA:Lvs 219 [(0,.slice wa wl wc),(1,.slice ya yl yc),(5,.bool true),(6,vk),(8,vl),(15,.int .i64 (((at_+1:Nat):Int))),(16,.int .i64 got),(17,.pointer (some ⟨bz,0,none⟩)),(18,.int .i64 i),(19,.int .i64 0),(20,.pointer (some ⟨bo,0,none⟩))] a:=hA.cut ⟨rfl,rfl,rfl,rfl,rfl,rfl,rfl,rfl,rfl,rfl,rfl,trivial⟩
 refine Br.liv_seq ?_
 refine lg_region (ops:=snOps 28) (n:=28) (il:=[0,1,2,3,4]) (by kernel_rfl) ?_
 refine wm (v:=vl) hA rfl rfl rfl (hA.get rfl) rfl rfl (fun a hA=>?_)
 refine wm (v:=.int .i64 0) hA rfl rfl rfl (hA.get rfl) rfl rfl (fun a hA=>?_)
 refine wop (v:=.agg #[.int .i64 4,.int .i64 1,.int .i64 1]) (op:=.load 38 (.tmp 20)) hA rfl rfl rfl rfl rfl rfl (fun o hop d=>by have z0:=cell 0 _ d rfl;have z1:=cell 1 _ d rfl;have z2:=cell 2 _ d rfl;unfold execOp;simp only [hop,hA.get (t:=20) rfl];go_simp;try rfl) (fun a hA=>?_)
 have e136:=hA.get (t:=136) rfl
 have e137:=hA.get (t:=137) rfl
 have e138:=hA.get (t:=138) rfl
 exact lv_enter rfl rfl (by decide) rfl Tryd.func17 rfl rfl (by simp only [List.map_toArray,List.map_cons,List.map_nil,e136,e137,e138]) (hn a (hA.cut ⟨rfl,rfl,rfl,rfl,rfl,rfl,rfl,rfl,rfl,rfl,trivial⟩))
theorem sn_take1 {l:List OpD}{Stop:Goroutine→World→Prop}{w:World}{wa ya:Option Addr}{wl wc yl yc at_ got i bz:Nat}{vk vl:Value}(hft:Fit (sfO l) w)(hko:KO l w){a:Act}(hA:Lvs 219 (snE (.slice wa wl wc) (.slice ya yl yc) vk vl at_ got bz i [(19,.int .i64 1)]) a)(k:List Item)(cs:List Frame)
  (hn:∀ a' w',Grown w w'→Lvs 219 (snE (.slice wa wl wc) (.slice ya yl yc) vk vl at_ got bz i [(19,.int .i64 1)]) a'→∀ d,Stop (G (Frame.enter Tryd.prog 17 #[vl,.int .i64 1,.agg #[.int .i64 5,.int .i64 2,.int .i64 0]] .normal) ((base 8).at a' (.inRegion (snOps 28) [3,4] :: .code snSet::k)::cs)) (w'.at d)) :
  SL l Stop a (.code snBegin::k) cs w:=by
 unfold snBegin
 refine Br.liv_seq ?_
 refine lg_region (ops:=snOps 23) (n:=23) (il:=[0,1,2]) (by kernel_rfl) ?_
 refine wop (v:=.agg #[.int .i64 5,.int .i64 2,.int .i64 0]) (op:=.build 38 #[(0,.const (.int .i64 5)),(1,.const (.int .i64 2)),(2,.const (.int .i64 0))]) hA rfl rfl rfl rfl rfl rfl (fun o hop d=>by unfold execOp;simp only [hop];go_simp;try rfl) (fun a hA=>?_)
 obtain ⟨o',ho,hop,hd,hg⟩:∃ o',(snOps 23)[1]?=some o'∧o'.op=.alloc 38∧o'.dst=some 20∧o'.guard=none:=⟨_,rfl,rfl,rfl,rfl⟩
 refine lw_made (ob:=.cells #[.int .i64 0,.int .i64 0,.int .i64 0] 38 (0,0)) (v:=.pointer (some ⟨w.heap.size,0,none⟩)) hA ho hg (by decide) hd (by decide) (fun d=>by unfold execOp;simp only [hop];go_simp;try rfl) (fun d=>by unfold execOp;simp only [hop];simp [go_sem]) trivial (fun a hA=>?_)
 clear ho hop hd hg
 have hG1:=grown_alloc (w:=w) trivial (ob:=.cells #[.int .i64 0,.int .i64 0,.int .i64 0] 38 (0,0)) trivial
 have hX1:=heap_alloc_new w (.cells #[.int .i64 0,.int .i64 0,.int .i64 0] 38 (0,0))
 have hs1:(w.alloc (.cells #[.int .i64 0,.int .i64 0,.int .i64 0] 38 (0,0))).heap.size=w.heap.size+1:=by simp
 generalize w.alloc (.cells #[.int .i64 0,.int .i64 0,.int .i64 0] 38 (0,0))=w1 at *
 have hft1:Fit (sfO l) w1:=⟨fun j hj=>by
  obtain ⟨c,t,hc⟩:=hft.soft j hj
  exact ⟨c,t,by rw [hG1.old j (Array.getElem?_eq_some_iff.1 hc).1];exact hc⟩,trivial⟩
 have ea:=hA.get (t:=20) rfl
 have eb:=hA.get (t:=123) rfl
 have zn:sfO l w.heap.size=0:=Br.sfO_zero fun o ho=>by have:=Br.KO.lt hko ho;omega
 obtain ⟨o',ho,hop,hd,hg⟩:∃ o',(snOps 23)[2]?=some o'∧o'.op=.store 38 (.tmp 20) (.tmp 123)∧o'.dst=none∧o'.guard=none:=⟨_,rfl,rfl,rfl,rfl⟩
 refine lw_storeRow hA ho hg (by decide) hop hd hft1 ea eb hX1 (by rfl) (by kernel_rfl) (by kernel_rfl) zn (fun w2 hs2 hk2 hX2=>?_)
 clear ho hop hd hg ea eb
 have hG2:Grown w w2:=⟨by omega,fun j hj=>by rw [hk2 j (by omega)];exact hG1.old j hj,trivial⟩
 refine Br.liv_region_end ?_
 replace hA:Lvs 219 (snE (.slice wa wl wc) (.slice ya yl yc) vk vl at_ got bz i [(19,.int .i64 1),(20,.pointer (some ⟨w.heap.size,0,none⟩))]) a:=hA.cut ⟨rfl,rfl,rfl,rfl,rfl,rfl,rfl,rfl,rfl,rfl,rfl,trivial⟩
 refine Br.liv_seq ?_
 refine Br.liv_seq ?_
 refine lg_region (ops:=snOps 24) (n:=24) (il:=[0,1]) (by kernel_rfl) ?_
 refine wm (v:=.int .i64 1) hA rfl rfl rfl (hA.get rfl) rfl rfl (fun a hA=>?_)
 refine wop (v:=.bool false) (op:=.binOp .eql 3 (.tmp 124) (.const (.int .i64 0)) 3) hA rfl rfl rfl (by kernel_rfl) rfl rfl (fun o hop d=>by unfold execOp;simp only [hop,hA.get (t:=124) rfl];go_simp) (fun a hA=>?_)
 refine Br.liv_region_end ?_
 replace hA:Lvs 219 ((125,.bool false)::snE (.slice wa wl wc) (.slice ya yl yc) vk vl at_ got bz i [(19,.int .i64 1),(20,.pointer (some ⟨w.heap.size,0,none⟩))]) a:=hA.cut ⟨rfl,rfl,rfl,rfl,rfl,rfl,rfl,rfl,rfl,rfl,rfl,rfl,trivial⟩
 refine Br.liv_cond (t:=false) (hA.get rfl) ?_
 refine Br.liv_skip ?_
 have cell:∀ j x d,([.int .i64 5,.int .i64 2,.int .i64 0]:List Value)[j]?=some x→(w2.at d).cell? ⟨w.heap.size,j,none⟩=some x:=fun j x d hx=>by
  show w2.cell? _=_
  simp only [World.cell?,hX2]
  simpa using hx
 refine Br.liv_seq ?_
 refine lg_region (ops:=snOps 28) (n:=28) (il:=[0,1,2,3,4]) (by kernel_rfl) ?_
 refine wm (v:=vl) hA rfl rfl rfl (hA.get rfl) rfl rfl (fun a hA=>?_)
 refine wm (v:=.int .i64 1) hA rfl rfl rfl (hA.get rfl) rfl rfl (fun a hA=>?_)
 refine wop (v:=.agg #[.int .i64 5,.int .i64 2,.int .i64 0]) (op:=.load 38 (.tmp 20)) hA rfl rfl rfl rfl rfl rfl (fun o hop d=>by have z0:=cell 0 _ d rfl;have z1:=cell 1 _ d rfl;have z2:=cell 2 _ d rfl;unfold execOp;simp only [hop,hA.get (t:=20) rfl];go_simp;try rfl) (fun a hA=>?_)
 have e136:=hA.get (t:=136) rfl
 have e137:=hA.get (t:=137) rfl
 have e138:=hA.get (t:=138) rfl
 exact lv_enter rfl rfl (by decide) rfl Tryd.func17 rfl rfl (by simp only [List.map_toArray,List.map_cons,List.map_nil,e136,e137,e138]) (hn a w2 hG2 (hA.cut ⟨rfl,rfl,rfl,rfl,rfl,rfl,rfl,rfl,rfl,rfl,trivial⟩))
theorem sn_begun0 {l:List OpD}{Stop:Goroutine→World→Prop}{w:World}{wa ya:Option Addr}{wl wc yl yc at_ got i bz:Nat}{vk vl:Value}{b0 b1:Bool}(hft:Fit (sfO l) w)(hB:w.heap[bz]?=some (.cells #[.bool b0,.bool b1] 77 (0,0)))(hz:sfO l bz=0){a:Act}(hA:Lvs 219 ((139,.int .i64 0)::snE (.slice wa wl wc) (.slice ya yl yc) vk vl at_ got bz i [(19,.int .i64 0)]) a)(k:List Item)(cs:List Frame)
  (hn:∀ a' w',w'.heap.size=w.heap.size→(∀ j,j≠bz→w'.heap[j]?=w.heap[j]?)→w'.heap[bz]?=some (.cells #[.bool true,.bool b1] 77 (0,0))→Lvs 219 (snE (.slice wa wl wc) (.slice ya yl yc) vk vl at_ got bz i [(19,.int .i64 0)]) a'→SL l Stop a' (k) cs w') :
  SL l Stop a (.inRegion (snOps 28) [4] :: .code snSet::k) cs w:=by
 refine wt (v:=.int .i64 0) hA rfl rfl rfl (hA.get rfl) rfl rfl (fun a hA=>?_)
 refine Br.liv_region_end ?_
 replace hA:Lvs 219 ((21,.int .i64 0)::(19,.int .i64 0)::snE (.slice wa wl wc) (.slice ya yl yc) vk vl at_ got bz i []) a:=hA.cut ⟨rfl,rfl,rfl,rfl,rfl,rfl,rfl,rfl,rfl,rfl,rfl,trivial⟩
 unfold snSet
 refine Br.liv_seq ?_
 refine lg_region (ops:=snOps 29) (n:=29) (il:=[0,1,2]) (by kernel_rfl) ?_
 refine wm (v:=.int .i64 0) hA rfl rfl rfl (hA.get rfl) rfl rfl (fun a hA=>?_)
 refine wop (v:=.pointer (some ⟨bz,0,none⟩)) (op:=.indexAddr 77 (.tmp 17) (.tmp 140)) hA rfl rfl rfl rfl rfl rfl (fun o hop d=>by unfold execOp;simp only [hop,hA.get (t:=17) rfl,hA.get (t:=140) rfl];go_simp) (fun a hA=>?_)
 obtain ⟨o',ho,hop,hd,hg⟩:∃ o',(snOps 29)[2]?=some o'∧o'.op=.store 4 (.tmp 141) (.const (.bool true))∧o'.dst=none∧o'.guard=none:=⟨_,rfl,rfl,rfl,rfl⟩
 have ea:=hA.get (t:=141) rfl
 refine lw_storeCell (j:=0) (v0:=.bool true) hA ho hg (by decide) hop hd hft hB (by simp) hz (fun v hv hf=>by unfold execOp;simp only [hop,ea];go_simp) (fun w1 hs' hk' hX'=>?_)
 clear ho hop hd hg ea
 refine Br.liv_region_end ?_
 replace hA:Lvs 219 ((21,.int .i64 0)::(19,.int .i64 0)::snE (.slice wa wl wc) (.slice ya yl yc) vk vl at_ got bz i []) a:=hA.cut ⟨rfl,rfl,rfl,rfl,rfl,rfl,rfl,rfl,rfl,rfl,rfl,trivial⟩
 refine lg_region (ops:=snOps 30) (n:=30) (il:=[0,1,2]) (by kernel_rfl) ?_
 refine wm (v:=.int .i64 0) hA rfl rfl rfl (hA.get rfl) rfl rfl (fun a hA=>?_)
 refine wop (v:=.bool true) (op:=.binOp .eql 26 (.tmp 142) (.const (.int .i64 0)) 26) hA rfl rfl rfl (by kernel_rfl) rfl rfl (fun o hop d=>by unfold execOp;simp only [hop,hA.get (t:=142) rfl];go_simp) (fun a hA=>?_)
 refine wt (v:=.bool true) hA rfl rfl rfl (hA.get rfl) rfl rfl (fun a hA=>?_)
 refine Br.liv_region_end ?_
 exact hn a w1 hs' hk' hX' (hA.cut ⟨rfl,rfl,rfl,rfl,rfl,rfl,rfl,rfl,rfl,rfl,trivial⟩)
theorem sn_begun1 {l:List OpD}{Stop:Goroutine→World→Prop}{w:World}{wa ya:Option Addr}{wl wc yl yc at_ got i bz:Nat}{vk vl:Value}{b0 b1:Bool}(hft:Fit (sfO l) w)(hB:w.heap[bz]?=some (.cells #[.bool b0,.bool b1] 77 (0,0)))(hz:sfO l bz=0){a:Act}(hA:Lvs 219 ((139,.int .i64 0)::snE (.slice wa wl wc) (.slice ya yl yc) vk vl at_ got bz i [(19,.int .i64 1)]) a)(k:List Item)(cs:List Frame)
  (hn:∀ a' w',w'.heap.size=w.heap.size→(∀ j,j≠bz→w'.heap[j]?=w.heap[j]?)→w'.heap[bz]?=some (.cells #[.bool b0,.bool true] 77 (0,0))→Lvs 219 (snE (.slice wa wl wc) (.slice ya yl yc) vk vl at_ got bz i [(19,.int .i64 1)]) a'→SL l Stop a' (k) cs w') :
  SL l Stop a (.inRegion (snOps 28) [4] :: .code snSet::k) cs w:=by
 refine wt (v:=.int .i64 0) hA rfl rfl rfl (hA.get rfl) rfl rfl (fun a hA=>?_)
 refine Br.liv_region_end ?_
 replace hA:Lvs 219 ((21,.int .i64 0)::(19,.int .i64 1)::snE (.slice wa wl wc) (.slice ya yl yc) vk vl at_ got bz i []) a:=hA.cut ⟨rfl,rfl,rfl,rfl,rfl,rfl,rfl,rfl,rfl,rfl,rfl,trivial⟩
 unfold snSet
 refine Br.liv_seq ?_
 refine lg_region (ops:=snOps 29) (n:=29) (il:=[0,1,2]) (by kernel_rfl) ?_
 refine wm (v:=.int .i64 1) hA rfl rfl rfl (hA.get rfl) rfl rfl (fun a hA=>?_)
 refine wop (v:=.pointer (some ⟨bz,1,none⟩)) (op:=.indexAddr 77 (.tmp 17) (.tmp 140)) hA rfl rfl rfl rfl rfl rfl (fun o hop d=>by unfold execOp;simp only [hop,hA.get (t:=17) rfl,hA.get (t:=140) rfl];go_simp) (fun a hA=>?_)
 obtain ⟨o',ho,hop,hd,hg⟩:∃ o',(snOps 29)[2]?=some o'∧o'.op=.store 4 (.tmp 141) (.const (.bool true))∧o'.dst=none∧o'.guard=none:=⟨_,rfl,rfl,rfl,rfl⟩
 have ea:=hA.get (t:=141) rfl
 refine lw_storeCell (j:=1) (v0:=.bool true) hA ho hg (by decide) hop hd hft hB (by simp) hz (fun v hv hf=>by unfold execOp;simp only [hop,ea];go_simp) (fun w1 hs' hk' hX'=>?_)
 clear ho hop hd hg ea
 refine Br.liv_region_end ?_
 replace hA:Lvs 219 ((21,.int .i64 0)::(19,.int .i64 1)::snE (.slice wa wl wc) (.slice ya yl yc) vk vl at_ got bz i []) a:=hA.cut ⟨rfl,rfl,rfl,rfl,rfl,rfl,rfl,rfl,rfl,rfl,rfl,trivial⟩
 refine lg_region (ops:=snOps 30) (n:=30) (il:=[0,1,2]) (by kernel_rfl) ?_
 refine wm (v:=.int .i64 0) hA rfl rfl rfl (hA.get rfl) rfl rfl (fun a hA=>?_)
 refine wop (v:=.bool true) (op:=.binOp .eql 26 (.tmp 142) (.const (.int .i64 0)) 26) hA rfl rfl rfl (by kernel_rfl) rfl rfl (fun o hop d=>by unfold execOp;simp only [hop,hA.get (t:=142) rfl];go_simp) (fun a hA=>?_)
 refine wt (v:=.bool true) hA rfl rfl rfl (hA.get rfl) rfl rfl (fun a hA=>?_)
 refine Br.liv_region_end ?_
 exact hn a w1 hs' hk' hX' (hA.cut ⟨rfl,rfl,rfl,rfl,rfl,rfl,rfl,rfl,rfl,rfl,trivial⟩)
theorem sn_pick0 {l:List OpD}{Stop:Goroutine→World→Prop}{w:World}{wa ya:Option Addr}{wl wc yl yc at_ got i bz:Nat}{vk vl:Value}{a:Act}(hA:Lvs 219 (snE (.slice wa wl wc) (.slice ya yl yc) vk vl at_ got bz i [(19,.int .i64 0)]) a)(k:List Item)(cs:List Frame)
  (hn:∀ a',Lvs 219 (snE (.slice wa wl wc) (.slice ya yl yc) vk vl at_ got bz i [(19,.int .i64 0)]) a'→∀ d,Stop (G (Frame.enter Tryd.prog 18 #[vl,.int .i64 0] .normal) ((base 8).at a' (.inRegion (snOps 31) [2,3,4,5,6,7] :: .code snGot::k)::cs)) (w.at d)) :
  SL l Stop a (.code snPick::k) cs w:=by
 unfold snPick
 refine Br.liv_seq ?_
 refine lg_region (ops:=snOps 31) (n:=31) (il:=[0,1,2,3,4,5,6,7]) (by kernel_rfl) ?_
 refine wm (v:=vl) hA rfl rfl rfl (hA.get rfl) rfl rfl (fun a hA=>?_)
 refine wm (v:=.int .i64 0) hA rfl rfl rfl (hA.get rfl) rfl rfl (fun a hA=>?_)
 have e145:=hA.get (t:=145) rfl
 have e146:=hA.get (t:=146) rfl
 exact lv_enter rfl rfl (by decide) rfl Tryd.func18 rfl rfl (by simp only [List.map_toArray,List.map_cons,List.map_nil,e145,e146]) (hn a (hA.cut ⟨rfl,rfl,rfl,rfl,rfl,rfl,rfl,rfl,rfl,rfl,trivial⟩))
theorem sn_pick1 {l:List OpD}{Stop:Goroutine→World→Prop}{w:World}{wa ya:Option Addr}{wl wc yl yc at_ got i bz:Nat}{vk vl:Value}{a:Act}(hA:Lvs 219 (snE (.slice wa wl wc) (.slice ya yl yc) vk vl at_ got bz i [(19,.int .i64 1)]) a)(k:List Item)(cs:List Frame)
  (hn:∀ a',Lvs 219 (snE (.slice wa wl wc) (.slice ya yl yc) vk vl at_ got bz i [(19,.int .i64 1)]) a'→∀ d,Stop (G (Frame.enter Tryd.prog 18 #[vl,.int .i64 1] .normal) ((base 8).at a' (.inRegion (snOps 31) [2,3,4,5,6,7] :: .code snGot::k)::cs)) (w.at d)) :
  SL l Stop a (.code snPick::k) cs w:=by
 unfold snPick
 refine Br.liv_seq ?_
 refine lg_region (ops:=snOps 31) (n:=31) (il:=[0,1,2,3,4,5,6,7]) (by kernel_rfl) ?_
 refine wm (v:=vl) hA rfl rfl rfl (hA.get rfl) rfl rfl (fun a hA=>?_)
 refine wm (v:=.int .i64 1) hA rfl rfl rfl (hA.get rfl) rfl rfl (fun a hA=>?_)
 have e145:=hA.get (t:=145) rfl
 have e146:=hA.get (t:=146) rfl
 exact lv_enter rfl rfl (by decide) rfl Tryd.func18 rfl rfl (by simp only [List.map_toArray,List.map_cons,List.map_nil,e145,e146]) (hn a (hA.cut ⟨rfl,rfl,rfl,rfl,rfl,rfl,rfl,rfl,rfl,rfl,trivial⟩))
theorem sn_last {l:List OpD}{Stop:Goroutine→World→Prop}{w:World}{wa ya:Option Addr}{wl wc yl yc at_ got i bz:Nat}{vk vl:Value}(hi:i<4398046511104){a:Act}(hA:Lvs 219 (snE (.slice wa wl wc) (.slice ya yl yc) vk vl at_ got bz i []) a)(k:List Item)(cs:List Frame)
  (hn:∀ a',Lvs 219 [(0,.slice wa wl wc),(1,.slice ya yl yc),(5,.bool true),(6,vk),(8,vl),(15,.int .i64 at_),(16,.int .i64 got),(17,.pointer (some ⟨bz,0,none⟩)),(18,.int .i64 (((i+1:Nat):Int)))] a'→SL l Stop a' (.code snLoop::.inLoop snLoop::.inBlock 0::.code snEnd::k) cs w) :
  SL l Stop a (.code (rs 17)::.inLoop snLoop::.inBlock 0::.code snEnd::k) cs w:=by
 refine lg_region (ops:=snOps 17) (n:=17) (il:=[0,1,2]) (by kernel_rfl) ?_
 refine wm (v:=.int .i64 i) hA rfl rfl rfl (hA.get rfl) rfl rfl (fun a hA=>?_)
 refine wop (v:=.int .i64 (((i+1:Nat):Int))) (op:=.binOp .add 3 (.tmp 99) (.const (.int .i64 1)) 3) hA rfl rfl rfl rfl rfl rfl (fun o hop d=>by have z0:IntKind.i64.wrap ((i:Int)+1)=((i+1:Nat):Int):=(by rw [IntKind.wrap_i64];omega);unfold execOp;simp only [hop,hA.get (t:=99) rfl];go_simp) (fun a hA=>?_)
 refine wt (v:=.int .i64 (((i+1:Nat):Int))) hA rfl rfl rfl (hA.get rfl) rfl rfl (fun a hA=>?_)
 refine Br.liv_region_end ?_
 refine Br.liv_inLoop ?_
 exact hn a (hA.cut ⟨rfl,rfl,rfl,rfl,rfl,rfl,rfl,rfl,rfl,trivial⟩)
theorem sn_more {l:List OpD}{Stop:Goroutine→World→Prop}{w:World}{wa ya:Option Addr}{wl wc yl yc at_ got i bz:Nat}{vk vl:Value}{v19:Value}{a:Act}(hA:Lvs 219 ((147,.tuple #[.bool false,.int .i64 0])::snE (.slice wa wl wc) (.slice ya yl yc) vk vl at_ got bz i [(19,v19)]) a)(k:List Item)(cs:List Frame)
  (hn:∀ a',Lvs 219 (snE (.slice wa wl wc) (.slice ya yl yc) vk vl at_ got bz i []) a'→SL l Stop a' (k) cs w) :
  SL l Stop a (.inRegion (snOps 31) [3,4,5,6,7] :: .code snGot::k) cs w:=by
 refine wm (v:=.tuple #[.bool false,.int .i64 0]) hA rfl rfl rfl (hA.get rfl) rfl rfl (fun a hA=>?_)
 refine lw_val (v:=.bool false) hA rfl (wanted_none rfl) (by decide) (by kernel_rfl) rfl (by decide) (fun d=>run_extract rfl (hA.get rfl) rfl) (fun a hA=>?_)
 refine lw_val (v:=.int .i64 0) hA rfl (wanted_none rfl) (by decide) (by kernel_rfl) rfl (by decide) (fun d=>run_extract rfl (hA.get rfl) rfl) (fun a hA=>?_)
 refine wt (v:=.bool false) hA rfl rfl rfl (hA.get rfl) rfl rfl (fun a hA=>?_)
 refine wt (v:=.int .i64 0) hA rfl rfl rfl (hA.get rfl) rfl rfl (fun a hA=>?_)
 refine Br.liv_region_end ?_
 replace hA:Lvs 219 ((22,.bool false)::(23,.int .i64 0)::snE (.slice wa wl wc) (.slice ya yl yc) vk vl at_ got bz i []) a:=hA.cut ⟨rfl,rfl,rfl,rfl,rfl,rfl,rfl,rfl,rfl,rfl,rfl,trivial⟩
 unfold snGot
 refine Br.liv_seq ?_
 refine lg_region (ops:=snOps 32) (n:=32) (il:=[0,1,2,3,4,5]) (by kernel_rfl) ?_
 refine wm (v:=.bool true) hA rfl rfl rfl (hA.get rfl) rfl rfl (fun a hA=>?_)
 refine wm (v:=.bool true) hA rfl rfl rfl (hA.get rfl) rfl rfl (fun a hA=>?_)
 refine wmg (v:=.int .i64 0) hA rfl rfl rfl rfl rfl rfl rfl (hA.get rfl) rfl rfl (fun a hA=>?_)
 refine wopg (v:=.bool true) (op:=.binOp .eql 26 (.tmp 152) (.const (.int .i64 0)) 26) hA rfl rfl rfl rfl rfl rfl rfl (by kernel_rfl) rfl rfl (fun o hop d=>by unfold execOp;simp only [hop,hA.get (t:=152) rfl];go_simp) (fun a hA=>?_)
 refine wop (v:=.bool true) (op:=.pick (.tmp 151) (.tmp 153) (.const (.bool false))) hA rfl rfl rfl rfl rfl rfl (fun o hop d=>by unfold execOp;simp only [hop,hA.get (t:=151) rfl,hA.get (t:=153) rfl];go_simp) (fun a hA=>?_)
 refine wt (v:=.bool true) hA rfl rfl rfl (hA.get rfl) rfl rfl (fun a hA=>?_)
 refine Br.liv_region_end ?_
 replace hA:Lvs 219 ((22,.bool false)::snE (.slice wa wl wc) (.slice ya yl yc) vk vl at_ got bz i []) a:=hA.cut ⟨rfl,rfl,rfl,rfl,rfl,rfl,rfl,rfl,rfl,rfl,trivial⟩
 refine Br.liv_seq ?_
 refine lg_region (ops:=snOps 33) (n:=33) (il:=[0]) (by kernel_rfl) ?_
 refine wm (v:=.bool false) hA rfl rfl rfl (hA.get rfl) rfl rfl (fun a (hA:Lvs 219 ((155,.bool false)::(22,.bool false)::snE (.slice wa wl wc) (.slice ya yl yc) vk vl at_ got bz i []) a)=>?_)
 refine Br.liv_region_end ?_
 replace hA:Lvs 219 ((155,.bool false)::snE (.slice wa wl wc) (.slice ya yl yc) vk vl at_ got bz i []) a:=hA.cut ⟨rfl,rfl,rfl,rfl,rfl,rfl,rfl,rfl,rfl,rfl,trivial⟩
 refine Br.liv_cond (t:=false) (hA.get rfl) ?_
 refine Br.liv_skip ?_
 exact hn a (hA.cut ⟨rfl,rfl,rfl,rfl,rfl,rfl,rfl,rfl,rfl,trivial⟩)
theorem sn_over0 {l:List OpD}{Stop:Goroutine→World→Prop}{w:World}{wa ya:Option Addr}{wl wc yl yc at_ got i bz:Nat}{vk vl:Value}{b0 b1:Bool}{m:Nat}{k0 k1 k2:Int}{va:Int}(hft:Fit (sfO l) w)(hB:w.heap[bz]?=some (.cells #[.bool b0,.bool b1] 77 (0,0)))(hz:sfO l bz=0)(hm:m<9000000000000000)
  (hdone:∀ w1:World,w1.heap.size=w.heap.size→(∀ j,j≠bz→w1.heap[j]?=w.heap[j]?)→w1.heap[bz]?=some (.cells #[.bool false,.bool b1] 77 (0,0))→∀ fr cs d,Must Tryd.prog true (DL true (sfO l)) (fun g w'=>∃ u,g=G (fr.finish u) cs∧Grown w1 w'∧u=.tuple #[.slice (some ⟨w1.heap.size,0,none⟩) (m+1:Nat) (m+1:Nat),.int .i64 0]∧∀ j,j<5→w'.cell? ⟨w1.heap.size,m*5+j,none⟩=([.int .i64 k0,.int .i64 k1,.int .i64 k2,.int .i64 0,.int .i64 va]:List Value)[j]?) (G (Frame.enter Tryd.prog 21 #[vl,.int .i64 0] .normal) (fr::cs)) (w1.at d))
  {a:Act}(hA:Lvs 219 ((147,.tuple #[.bool true,.int .i64 0])::snE (.slice wa wl wc) (.slice ya yl yc) vk vl at_ got bz i [(19,.int .i64 0)]) a)(k:List Item)(cs:List Frame)
  (hn:∀ a' w',w.heap.size≤w'.heap.size→(∀ j,j<w.heap.size→j≠bz→w'.heap[j]?=w.heap[j]?)→w'.heap[bz]?=some (.cells #[.bool false,.bool b1] 77 (0,0))→Lvs 219 (snE (.slice wa wl wc) (.slice ya yl yc) vk vl at_ got bz i []) a'→SL l Stop a' (k) cs w') :
  SL l Stop a (.inRegion (snOps 31) [3,4,5,6,7] :: .code snGot::k) cs w:=by
 refine wm (v:=.tuple #[.bool true,.int .i64 0]) hA rfl rfl rfl (hA.get rfl) rfl rfl (fun a hA=>?_)
 refine lw_val (v:=.bool true) hA rfl (wanted_none rfl) (by decide) (by kernel_rfl) rfl (by decide) (fun d=>run_extract rfl (hA.get rfl) rfl) (fun a hA=>?_)
 refine lw_val (v:=.int .i64 0) hA rfl (wanted_none rfl) (by decide) (by kernel_rfl) rfl (by decide) (fun d=>run_extract rfl (hA.get rfl) rfl) (fun a hA=>?_)
 refine wt (v:=.bool true) hA rfl rfl rfl (hA.get rfl) rfl rfl (fun a hA=>?_)
 refine wt (v:=.int .i64 0) hA rfl rfl rfl (hA.get rfl) rfl rfl (fun a hA=>?_)
 refine Br.liv_region_end ?_
 replace hA:Lvs 219 ((22,.bool true)::(23,.int .i64 0)::snE (.slice wa wl wc) (.slice ya yl yc) vk vl at_ got bz i [(19,.int .i64 0)]) a:=hA.cut ⟨rfl,rfl,rfl,rfl,rfl,rfl,rfl,rfl,rfl,rfl,rfl,rfl,trivial⟩
 unfold snGot
 refine Br.liv_seq ?_
 refine lg_region (ops:=snOps 32) (n:=32) (il:=[0,1,2,3,4,5]) (by kernel_rfl) ?_
 refine wm (v:=.bool true) hA rfl rfl rfl (hA.get rfl) rfl rfl (fun a hA=>?_)
 refine wm (v:=.bool true) hA rfl rfl rfl (hA.get rfl) rfl rfl (fun a hA=>?_)
 refine wmg (v:=.int .i64 0) hA rfl rfl rfl rfl rfl rfl rfl (hA.get rfl) rfl rfl (fun a hA=>?_)
 refine wopg (v:=.bool true) (op:=.binOp .eql 26 (.tmp 152) (.const (.int .i64 0)) 26) hA rfl rfl rfl rfl rfl rfl rfl (by kernel_rfl) rfl rfl (fun o hop d=>by unfold execOp;simp only [hop,hA.get (t:=152) rfl];go_simp) (fun a hA=>?_)
 refine wop (v:=.bool true) (op:=.pick (.tmp 151) (.tmp 153) (.const (.bool false))) hA rfl rfl rfl rfl rfl rfl (fun o hop d=>by unfold execOp;simp only [hop,hA.get (t:=151) rfl,hA.get (t:=153) rfl];go_simp) (fun a hA=>?_)
 refine wt (v:=.bool true) hA rfl rfl rfl (hA.get rfl) rfl rfl (fun a hA=>?_)
 refine Br.liv_region_end ?_
 replace hA:Lvs 219 ((22,.bool true)::snE (.slice wa wl wc) (.slice ya yl yc) vk vl at_ got bz i [(19,.int .i64 0)]) a:=hA.cut ⟨rfl,rfl,rfl,rfl,rfl,rfl,rfl,rfl,rfl,rfl,rfl,trivial⟩
 refine Br.liv_seq ?_
 refine lg_region (ops:=snOps 33) (n:=33) (il:=[0]) (by kernel_rfl) ?_
 refine wm (v:=.bool true) hA rfl rfl rfl (hA.get rfl) rfl rfl (fun a (hA:Lvs 219 ((155,.bool true)::(22,.bool true)::snE (.slice wa wl wc) (.slice ya yl yc) vk vl at_ got bz i [(19,.int .i64 0)]) a)=>?_)
 refine Br.liv_region_end ?_
 replace hA:Lvs 219 ((155,.bool true)::snE (.slice wa wl wc) (.slice ya yl yc) vk vl at_ got bz i [(19,.int .i64 0)]) a:=hA.cut ⟨rfl,rfl,rfl,rfl,rfl,rfl,rfl,rfl,rfl,rfl,rfl,trivial⟩
 refine Br.liv_cond (t:=true) (hA.get rfl) ?_
 show Liv Tryd.prog true true (sfO l) Stop (G ((base 8).at a (.code snOver::k)) cs) w
 unfold snOver
 refine Br.liv_seq ?_
 refine lg_region (ops:=snOps 34) (n:=34) (il:=[0,1,2]) (by kernel_rfl) ?_
 refine wm (v:=.int .i64 0) hA rfl rfl rfl (hA.get rfl) rfl rfl (fun a hA=>?_)
 refine wop (v:=.pointer (some ⟨bz,0,none⟩)) (op:=.indexAddr 77 (.tmp 17) (.tmp 156)) hA rfl rfl rfl rfl rfl rfl (fun o hop d=>by unfold execOp;simp only [hop,hA.get (t:=17) rfl,hA.get (t:=156) rfl];go_simp) (fun a hA=>?_)
 obtain ⟨o',ho,hop,hd,hg⟩:∃ o',(snOps 34)[2]?=some o'∧o'.op=.store 4 (.tmp 157) (.const (.bool false))∧o'.dst=none∧o'.guard=none:=⟨_,rfl,rfl,rfl,rfl⟩
 have ea:=hA.get (t:=157) rfl
 refine lw_storeCell (j:=0) (v0:=.bool false) hA ho hg (by decide) hop hd hft hB (by simp) hz (fun v hv hf=>by unfold execOp;simp only [hop,ea];go_simp) (fun w1 hs' hk' hX'=>?_)
 clear ho hop hd hg ea
 refine Br.liv_region_end ?_
 replace hA:Lvs 219 (snE (.slice wa wl wc) (.slice ya yl yc) vk vl at_ got bz i [(19,.int .i64 0)]) a:=hA.cut ⟨rfl,rfl,rfl,rfl,rfl,rfl,rfl,rfl,rfl,rfl,trivial⟩
 refine Br.liv_seq ?_
 refine lg_region (ops:=snOps 35) (n:=35) (il:=[0,1,2,3,4,5,6,7]) (by kernel_rfl) ?_
 refine wm (v:=vl) hA rfl rfl rfl (hA.get rfl) rfl rfl (fun a hA=>?_)
 refine wm (v:=.int .i64 0) hA rfl rfl rfl (hA.get rfl) rfl rfl (fun a hA=>?_)
 have e159:=hA.get (t:=159) rfl
 have e160:=hA.get (t:=160) rfl
 refine lw_call (vs:=#[vl,.int .i64 0]) hA rfl rfl (by decide) rfl rfl (by decide) Tryd.func21 rfl rfl (by simp only [List.map_toArray,List.map_cons,List.map_nil,e159,e160]) (fun fr cs d=>hdone w1 hs' hk' hX' fr cs d) (fun u w2 hR a hA=>?_)
 obtain ⟨hG,rfl,hc⟩:=hR
 clear e159 e160
 replace hA:Lvs 219 ((161,.tuple #[.slice (some ⟨w1.heap.size,0,none⟩) ((m+1:Nat)) ((m+1:Nat)),.int .i64 0])::(160,.int .i64 0)::(159,vl)::snE (.slice wa wl wc) (.slice ya yl yc) vk vl at_ got bz i [(19,.int .i64 0)]) a:=hA
 refine wm (v:=.tuple #[.slice (some ⟨w1.heap.size,0,none⟩) ((m+1:Nat)) ((m+1:Nat)),.int .i64 0]) hA rfl rfl rfl (hA.get rfl) rfl rfl (fun a hA=>?_)
 refine lw_val (v:=.slice (some ⟨w1.heap.size,0,none⟩) ((m+1:Nat)) ((m+1:Nat))) hA rfl (wanted_none rfl) (by decide) (by kernel_rfl) rfl (by decide) (fun d=>run_extract rfl (hA.get rfl) rfl) (fun a hA=>?_)
 refine lw_val (v:=.int .i64 0) hA rfl (wanted_none rfl) (by decide) (by kernel_rfl) rfl (by decide) (fun d=>run_extract rfl (hA.get rfl) rfl) (fun a hA=>?_)
 refine wt (v:=.slice (some ⟨w1.heap.size,0,none⟩) ((m+1:Nat)) ((m+1:Nat))) hA rfl rfl rfl (hA.get rfl) rfl rfl (fun a hA=>?_)
 refine wt (v:=.int .i64 0) hA rfl rfl rfl (hA.get rfl) rfl rfl (fun a hA=>?_)
 refine Br.liv_region_end ?_
 replace hA:Lvs 219 ((24,.slice (some ⟨w1.heap.size,0,none⟩) ((m+1:Nat)) ((m+1:Nat)))::(25,.int .i64 0)::snE (.slice wa wl wc) (.slice ya yl yc) vk vl at_ got bz i [(19,.int .i64 0)]) a:=hA.cut ⟨rfl,rfl,rfl,rfl,rfl,rfl,rfl,rfl,rfl,rfl,rfl,rfl,trivial⟩
 have lb:=(Array.getElem?_eq_some_iff.1 hB).1
 have hX2:w2.heap[bz]?=some (.cells #[.bool false,.bool b1] 77 (0,0)):=(hG.old bz (by omega)).trans hX'
 have ho2:∀ j,j<w.heap.size→j≠bz→w2.heap[j]?=w.heap[j]?:=fun j hj hne=>(hG.old j (by omega)).trans (hk' j hne)
 have hz2:w.heap.size≤w2.heap.size:=by have:=hG.size;omega
 have cd:∀ j u d,j<5→([.int .i64 k0,.int .i64 k1,.int .i64 k2,.int .i64 0,.int .i64 va]:List Value)[j]?=some u→(w2.at d).cell? ⟨w1.heap.size,m*5+j,none⟩=some u:=fun j u d hj hx=>(hc j hj).trans hx
 have n2:((m+1:Nat):Int)≠0:=by omega
 have n3:(0:Int)≤(m:Int):=by omega
 have n4:(m:Int)<((m+1:Nat):Int):=by omega
 clear hs' hk' hX'
 refine Br.liv_seq ?_
 refine lg_region (ops:=snOps 36) (n:=36) (il:=[0,1,2,3,4,5,6,7,8,9,10,11,12,13,14,15,16]) (by kernel_rfl) ?_
 refine wm (v:=.int .i64 0) hA rfl rfl rfl (hA.get rfl) rfl rfl (fun a hA=>?_)
 refine wop (v:=.bool false) (op:=.binOp .neq 26 (.tmp 164) (.const (.int .i64 0)) 26) hA rfl rfl rfl (by kernel_rfl) rfl rfl (fun o hop d=>by unfold execOp;simp only [hop,hA.get (t:=164) rfl];go_simp) (fun a hA=>?_)
 refine wm (v:=.bool false) hA rfl rfl rfl (hA.get rfl) rfl rfl (fun a (hA:Lvs 219 ((166,.bool false)::(165,.bool false)::(164,.int .i64 0)::(24,.slice (some ⟨w1.heap.size,0,none⟩) ((m+1:Nat)) ((m+1:Nat)))::(25,.int .i64 0)::snE (.slice wa wl wc) (.slice ya yl yc) vk vl at_ got bz i [(19,.int .i64 0)]) a)=>?_)
 refine wmg (v:=.slice (some ⟨w1.heap.size,0,none⟩) ((m+1:Nat)) ((m+1:Nat))) hA rfl rfl rfl rfl rfl rfl rfl (hA.get rfl) rfl rfl (fun a hA=>?_)
 have e167:=hA.get (t:=167) rfl
 refine lw_val (v:=.int .i64 ((m+1:Nat))) hA rfl ((hA.wanted (x:=false) rfl rfl rfl rfl).trans rfl) (by decide) (by kernel_rfl) rfl (by decide) (fun d=>run_len rfl Tryd.underlying65 e167) (fun a hA=>?_)
 clear e167
 refine wopg (v:=.bool false) (op:=.binOp .eql 3 (.tmp 168) (.const (.int .i64 0)) 3) hA rfl rfl rfl rfl rfl rfl rfl (by kernel_rfl) rfl rfl (fun o hop d=>by unfold execOp;simp only [hop,hA.get (t:=168) rfl];go_simp;try omega) (fun a hA=>?_)
 refine wop (v:=.bool false) (op:=.pick (.tmp 166) (.const (.bool true)) (.tmp 169)) hA rfl rfl rfl rfl rfl rfl (fun o hop d=>by unfold execOp;simp only [hop,hA.get (t:=166) rfl,hA.get (t:=169) rfl];go_simp) (fun a hA=>?_)
 refine wm (v:=.bool false) hA rfl rfl rfl (hA.get rfl) rfl rfl (fun a hA=>?_)
 refine wmg (v:=.slice (some ⟨w1.heap.size,0,none⟩) ((m+1:Nat)) ((m+1:Nat))) hA rfl rfl rfl rfl rfl rfl rfl (hA.get rfl) rfl rfl (fun a hA=>?_)
 refine wmg (v:=.slice (some ⟨w1.heap.size,0,none⟩) ((m+1:Nat)) ((m+1:Nat))) hA rfl rfl rfl rfl rfl rfl rfl (hA.get rfl) rfl rfl (fun a hA=>?_)
 have e173:=hA.get (t:=173) rfl
 refine lw_val (v:=.int .i64 ((m+1:Nat))) hA rfl ((hA.wanted (x:=false) rfl rfl rfl rfl).trans rfl) (by decide) (by kernel_rfl) rfl (by decide) (fun d=>run_len rfl Tryd.underlying65 e173) (fun a hA=>?_)
 clear e173
 replace hA:Lvs 219 ((174,.int .i64 ((m+1:Nat)))::(172,.slice (some ⟨w1.heap.size,0,none⟩) ((m+1:Nat)) ((m+1:Nat)))::(171,.bool false)::(24,.slice (some ⟨w1.heap.size,0,none⟩) ((m+1:Nat)) ((m+1:Nat)))::(25,.int .i64 0)::snE (.slice wa wl wc) (.slice ya yl yc) vk vl at_ got bz i [(19,.int .i64 0)]) a:=hA.cut ⟨rfl,rfl,rfl,rfl,rfl,rfl,rfl,rfl,rfl,rfl,rfl,rfl,rfl,rfl,rfl,trivial⟩
 refine wopg (v:=.int .i64 ((m:Int))) (op:=.binOp .sub 3 (.tmp 174) (.const (.int .i64 1)) 3) hA rfl rfl rfl rfl rfl rfl rfl rfl rfl rfl (fun o hop d=>by have z9:IntKind.i64.wrap (m:Int)=(m:Int):=(by rw [IntKind.wrap_i64];omega);unfold execOp;simp only [hop,hA.get (t:=174) rfl];go_simp) (fun a hA=>?_)
 refine wopg (v:=.pointer (some ⟨w1.heap.size,m*5,none⟩)) (op:=.indexAddr 65 (.tmp 172) (.tmp 175)) hA rfl rfl rfl rfl rfl rfl rfl rfl rfl rfl (fun o hop d=>by unfold execOp;simp only [hop,hA.get (t:=172) rfl,hA.get (t:=175) rfl];go_simp;try (intro h;omega)) (fun a hA=>?_)
 refine wopg (v:=.pointer (some ⟨w1.heap.size,m*5+3,none⟩)) (op:=.fieldAddr 70 (.tmp 176) 1) hA rfl rfl rfl rfl rfl rfl rfl rfl rfl rfl (fun o hop d=>by unfold execOp;simp only [hop,hA.get (t:=176) rfl];go_simp) (fun a hA=>?_)
 refine wopg (v:=.int .i64 0) (op:=.load 26 (.tmp 177)) hA rfl rfl rfl rfl rfl rfl rfl rfl rfl rfl (fun o hop d=>by have z0:w2.cell? ⟨w1.heap.size,m*5+3,none⟩=some (.int .i64 0):=cd 3 _ d (by decide) rfl;unfold execOp;simp only [hop,hA.get (t:=177) rfl];go_simp) (fun a (hA:Lvs 219 ((178,.int .i64 0)::(177,.pointer (some ⟨w1.heap.size,m*5+3,none⟩))::(176,.pointer (some ⟨w1.heap.size,m*5,none⟩))::(175,.int .i64 ((m:Int)))::(174,.int .i64 ((m+1:Nat)))::(172,.slice (some ⟨w1.heap.size,0,none⟩) ((m+1:Nat)) ((m+1:Nat)))::(171,.bool false)::(24,.slice (some ⟨w1.heap.size,0,none⟩) ((m+1:Nat)) ((m+1:Nat)))::(25,.int .i64 0)::snE (.slice wa wl wc) (.slice ya yl yc) vk vl at_ got bz i [(19,.int .i64 0)]) a)=>?_)
 refine wopg (v:=.bool false) (op:=.binOp .neq 26 (.tmp 178) (.const (.int .i64 0)) 26) hA rfl rfl rfl rfl rfl rfl rfl (by kernel_rfl) rfl rfl (fun o hop d=>by unfold execOp;simp only [hop,hA.get (t:=178) rfl];go_simp) (fun a hA=>?_)
 refine wop (v:=.bool false) (op:=.pick (.tmp 171) (.const (.bool true)) (.tmp 179)) hA rfl rfl rfl rfl rfl rfl (fun o hop d=>by unfold execOp;simp only [hop,hA.get (t:=171) rfl,hA.get (t:=179) rfl];go_simp) (fun a hA=>?_)
 refine Br.liv_region_end ?_
 replace hA:Lvs 219 ((180,.bool false)::(24,.slice (some ⟨w1.heap.size,0,none⟩) ((m+1:Nat)) ((m+1:Nat)))::snE (.slice wa wl wc) (.slice ya yl yc) vk vl at_ got bz i [(19,.int .i64 0)]) a:=hA.cut ⟨rfl,rfl,rfl,rfl,rfl,rfl,rfl,rfl,rfl,rfl,rfl,rfl,trivial⟩
 refine Br.liv_cond (t:=false) (hA.get rfl) ?_
 refine Br.liv_seq ?_
 refine lg_region (ops:=snOps 38) (n:=38) (il:=[0,1]) (by kernel_rfl) ?_
 refine wm (v:=.int .i64 0) hA rfl rfl rfl (hA.get rfl) rfl rfl (fun a hA=>?_)
 refine wop (v:=.bool false) (op:=.binOp .eql 3 (.tmp 181) (.const (.int .i64 1)) 3) hA rfl rfl rfl (by kernel_rfl) rfl rfl (fun o hop d=>by unfold execOp;simp only [hop,hA.get (t:=181) rfl];go_simp) (fun a hA=>?_)
 refine Br.liv_region_end ?_
 replace hA:Lvs 219 ((182,.bool false)::(24,.slice (some ⟨w1.heap.size,0,none⟩) ((m+1:Nat)) ((m+1:Nat)))::snE (.slice wa wl wc) (.slice ya yl yc) vk vl at_ got bz i []) a:=hA.cut ⟨rfl,rfl,rfl,rfl,rfl,rfl,rfl,rfl,rfl,rfl,rfl,trivial⟩
 refine Br.liv_cond (t:=false) (hA.get rfl) ?_
 refine Br.liv_skip ?_
 exact hn a w2 hz2 ho2 hX2 (hA.cut ⟨rfl,rfl,rfl,rfl,rfl,rfl,rfl,rfl,rfl,trivial⟩)
theorem sn_over1 {l:List OpD}{Stop:Goroutine→World→Prop}{w:World}{ya:Option Addr}{wg wo wl wc yl yc at_ got i bz:Nat}{vk vl:Value}{b0 b1:Bool}{m:Nat}{k0 k1 k2:Int}  {x:Int}(hgl:got<wl)(hga:got<at_)(hgt:got<4398046511104)(hx:w.cell? ⟨wg,wo+got,none⟩=some (.int .i64 x))(hxl:wg<w.heap.size)(hxz:wg≠bz)(hft:Fit (sfO l) w)(hB:w.heap[bz]?=some (.cells #[.bool b0,.bool b1] 77 (0,0)))(hz:sfO l bz=0)(hm:m<9000000000000000)
  (hdone:∀ w1:World,w1.heap.size=w.heap.size→(∀ j,j≠bz→w1.heap[j]?=w.heap[j]?)→w1.heap[bz]?=some (.cells #[.bool b0,.bool false] 77 (0,0))→∀ fr cs d,Must Tryd.prog true (DL true (sfO l)) (fun g w'=>∃ u,g=G (fr.finish u) cs∧Grown w1 w'∧u=.tuple #[.slice (some ⟨w1.heap.size,0,none⟩) (m+1:Nat) (m+1:Nat),.int .i64 0]∧∀ j,j<5→w'.cell? ⟨w1.heap.size,m*5+j,none⟩=([.int .i64 k0,.int .i64 k1,.int .i64 k2,.int .i64 0,.int .i64 x]:List Value)[j]?) (G (Frame.enter Tryd.prog 21 #[vl,.int .i64 1] .normal) (fr::cs)) (w1.at d))
  {a:Act}(hA:Lvs 219 ((147,.tuple #[.bool true,.int .i64 0])::snE (.slice (some ⟨wg,wo,none⟩) wl wc) (.slice ya yl yc) vk vl at_ got bz i [(19,.int .i64 1)]) a)(k:List Item)(cs:List Frame)
  (hn:∀ a' w',w.heap.size≤w'.heap.size→(∀ j,j<w.heap.size→j≠bz→w'.heap[j]?=w.heap[j]?)→w'.heap[bz]?=some (.cells #[.bool b0,.bool false] 77 (0,0))→Lvs 219 [(0,.slice (some ⟨wg,wo,none⟩) wl wc),(1,.slice ya yl yc),(5,.bool true),(6,vk),(8,vl),(15,.int .i64 at_),(16,.int .i64 (((got+1:Nat):Int))),(17,.pointer (some ⟨bz,0,none⟩)),(18,.int .i64 i)] a'→SL l Stop a' (k) cs w') :
  SL l Stop a (.inRegion (snOps 31) [3,4,5,6,7] :: .code snGot::k) cs w:=by
 refine wm (v:=.tuple #[.bool true,.int .i64 0]) hA rfl rfl rfl (hA.get rfl) rfl rfl (fun a hA=>?_)
 refine lw_val (v:=.bool true) hA rfl (wanted_none rfl) (by decide) (by kernel_rfl) rfl (by decide) (fun d=>run_extract rfl (hA.get rfl) rfl) (fun a hA=>?_)
 refine lw_val (v:=.int .i64 0) hA rfl (wanted_none rfl) (by decide) (by kernel_rfl) rfl (by decide) (fun d=>run_extract rfl (hA.get rfl) rfl) (fun a hA=>?_)
 refine wt (v:=.bool true) hA rfl rfl rfl (hA.get rfl) rfl rfl (fun a hA=>?_)
 refine wt (v:=.int .i64 0) hA rfl rfl rfl (hA.get rfl) rfl rfl (fun a hA=>?_)
 refine Br.liv_region_end ?_
 replace hA:Lvs 219 ((22,.bool true)::(23,.int .i64 0)::snE (.slice (some ⟨wg,wo,none⟩) wl wc) (.slice ya yl yc) vk vl at_ got bz i [(19,.int .i64 1)]) a:=hA.cut ⟨rfl,rfl,rfl,rfl,rfl,rfl,rfl,rfl,rfl,rfl,rfl,rfl,trivial⟩
 unfold snGot
 refine Br.liv_seq ?_
 refine lg_region (ops:=snOps 32) (n:=32) (il:=[0,1,2,3,4,5]) (by kernel_rfl) ?_
 refine wm (v:=.bool true) hA rfl rfl rfl (hA.get rfl) rfl rfl (fun a hA=>?_)
 refine wm (v:=.bool true) hA rfl rfl rfl (hA.get rfl) rfl rfl (fun a hA=>?_)
 refine wmg (v:=.int .i64 0) hA rfl rfl rfl rfl rfl rfl rfl (hA.get rfl) rfl rfl (fun a hA=>?_)
 refine wopg (v:=.bool true) (op:=.binOp .eql 26 (.tmp 152) (.const (.int .i64 0)) 26) hA rfl rfl rfl rfl rfl rfl rfl (by kernel_rfl) rfl rfl (fun o hop d=>by unfold execOp;simp only [hop,hA.get (t:=152) rfl];go_simp) (fun a hA=>?_)
 refine wop (v:=.bool true) (op:=.pick (.tmp 151) (.tmp 153) (.const (.bool false))) hA rfl rfl rfl rfl rfl rfl (fun o hop d=>by unfold execOp;simp only [hop,hA.get (t:=151) rfl,hA.get (t:=153) rfl];go_simp) (fun a hA=>?_)
 refine wt (v:=.bool true) hA rfl rfl rfl (hA.get rfl) rfl rfl (fun a hA=>?_)
 refine Br.liv_region_end ?_
 replace hA:Lvs 219 ((22,.bool true)::snE (.slice (some ⟨wg,wo,none⟩) wl wc) (.slice ya yl yc) vk vl at_ got bz i [(19,.int .i64 1)]) a:=hA.cut ⟨rfl,rfl,rfl,rfl,rfl,rfl,rfl,rfl,rfl,rfl,rfl,trivial⟩
 refine Br.liv_seq ?_
 refine lg_region (ops:=snOps 33) (n:=33) (il:=[0]) (by kernel_rfl) ?_
 refine wm (v:=.bool true) hA rfl rfl rfl (hA.get rfl) rfl rfl (fun a (hA:Lvs 219 ((155,.bool true)::(22,.bool true)::snE (.slice (some ⟨wg,wo,none⟩) wl wc) (.slice ya yl yc) vk vl at_ got bz i [(19,.int .i64 1)]) a)=>?_)
 refine Br.liv_region_end ?_
 replace hA:Lvs 219 ((155,.bool true)::snE (.slice (some ⟨wg,wo,none⟩) wl wc) (.slice ya yl yc) vk vl at_ got bz i [(19,.int .i64 1)]) a:=hA.cut ⟨rfl,rfl,rfl,rfl,rfl,rfl,rfl,rfl,rfl,rfl,rfl,trivial⟩
 refine Br.liv_cond (t:=true) (hA.get rfl) ?_
 show Liv Tryd.prog true true (sfO l) Stop (G ((base 8).at a (.code snOver::k)) cs) w
 unfold snOver
 refine Br.liv_seq ?_
 refine lg_region (ops:=snOps 34) (n:=34) (il:=[0,1,2]) (by kernel_rfl) ?_
 refine wm (v:=.int .i64 1) hA rfl rfl rfl (hA.get rfl) rfl rfl (fun a hA=>?_)
 refine wop (v:=.pointer (some ⟨bz,1,none⟩)) (op:=.indexAddr 77 (.tmp 17) (.tmp 156)) hA rfl rfl rfl rfl rfl rfl (fun o hop d=>by unfold execOp;simp only [hop,hA.get (t:=17) rfl,hA.get (t:=156) rfl];go_simp) (fun a hA=>?_)
 obtain ⟨o',ho,hop,hd,hg⟩:∃ o',(snOps 34)[2]?=some o'∧o'.op=.store 4 (.tmp 157) (.const (.bool false))∧o'.dst=none∧o'.guard=none:=⟨_,rfl,rfl,rfl,rfl⟩
 have ea:=hA.get (t:=157) rfl
 refine lw_storeCell (j:=1) (v0:=.bool false) hA ho hg (by decide) hop hd hft hB (by simp) hz (fun v hv hf=>by unfold execOp;simp only [hop,ea];go_simp) (fun w1 hs' hk' hX'=>?_)
 clear ho hop hd hg ea
 refine Br.liv_region_end ?_
 replace hA:Lvs 219 (snE (.slice (some ⟨wg,wo,none⟩) wl wc) (.slice ya yl yc) vk vl at_ got bz i [(19,.int .i64 1)]) a:=hA.cut ⟨rfl,rfl,rfl,rfl,rfl,rfl,rfl,rfl,rfl,rfl,trivial⟩
 refine Br.liv_seq ?_
 refine lg_region (ops:=snOps 35) (n:=35) (il:=[0,1,2,3,4,5,6,7]) (by kernel_rfl) ?_
 refine wm (v:=vl) hA rfl rfl rfl (hA.get rfl) rfl rfl (fun a hA=>?_)
 refine wm (v:=.int .i64 1) hA rfl rfl rfl (hA.get rfl) rfl rfl (fun a hA=>?_)
 have e159:=hA.get (t:=159) rfl
 have e160:=hA.get (t:=160) rfl
 refine lw_call (vs:=#[vl,.int .i64 1]) hA rfl rfl (by decide) rfl rfl (by decide) Tryd.func21 rfl rfl (by simp only [List.map_toArray,List.map_cons,List.map_nil,e159,e160]) (fun fr cs d=>hdone w1 hs' hk' hX' fr cs d) (fun u w2 hR a hA=>?_)
 obtain ⟨hG,rfl,hc⟩:=hR
 clear e159 e160
 replace hA:Lvs 219 ((161,.tuple #[.slice (some ⟨w1.heap.size,0,none⟩) ((m+1:Nat)) ((m+1:Nat)),.int .i64 0])::(160,.int .i64 1)::(159,vl)::snE (.slice (some ⟨wg,wo,none⟩) wl wc) (.slice ya yl yc) vk vl at_ got bz i [(19,.int .i64 1)]) a:=hA
 refine wm (v:=.tuple #[.slice (some ⟨w1.heap.size,0,none⟩) ((m+1:Nat)) ((m+1:Nat)),.int .i64 0]) hA rfl rfl rfl (hA.get rfl) rfl rfl (fun a hA=>?_)
 refine lw_val (v:=.slice (some ⟨w1.heap.size,0,none⟩) ((m+1:Nat)) ((m+1:Nat))) hA rfl (wanted_none rfl) (by decide) (by kernel_rfl) rfl (by decide) (fun d=>run_extract rfl (hA.get rfl) rfl) (fun a hA=>?_)
 refine lw_val (v:=.int .i64 0) hA rfl (wanted_none rfl) (by decide) (by kernel_rfl) rfl (by decide) (fun d=>run_extract rfl (hA.get rfl) rfl) (fun a hA=>?_)
 refine wt (v:=.slice (some ⟨w1.heap.size,0,none⟩) ((m+1:Nat)) ((m+1:Nat))) hA rfl rfl rfl (hA.get rfl) rfl rfl (fun a hA=>?_)
 refine wt (v:=.int .i64 0) hA rfl rfl rfl (hA.get rfl) rfl rfl (fun a hA=>?_)
 refine Br.liv_region_end ?_
 replace hA:Lvs 219 ((24,.slice (some ⟨w1.heap.size,0,none⟩) ((m+1:Nat)) ((m+1:Nat)))::(25,.int .i64 0)::snE (.slice (some ⟨wg,wo,none⟩) wl wc) (.slice ya yl yc) vk vl at_ got bz i [(19,.int .i64 1)]) a:=hA.cut ⟨rfl,rfl,rfl,rfl,rfl,rfl,rfl,rfl,rfl,rfl,rfl,rfl,trivial⟩
 have lb:=(Array.getElem?_eq_some_iff.1 hB).1
 have hX2:w2.heap[bz]?=some (.cells #[.bool b0,.bool false] 77 (0,0)):=(hG.old bz (by omega)).trans hX'
 have ho2:∀ j,j<w.heap.size→j≠bz→w2.heap[j]?=w.heap[j]?:=fun j hj hne=>(hG.old j (by omega)).trans (hk' j hne)
 have hz2:w.heap.size≤w2.heap.size:=by have:=hG.size;omega
 have cd:∀ j u d,j<5→([.int .i64 k0,.int .i64 k1,.int .i64 k2,.int .i64 0,.int .i64 x]:List Value)[j]?=some u→(w2.at d).cell? ⟨w1.heap.size,m*5+j,none⟩=some u:=fun j u d hj hx=>(hc j hj).trans hx
 have n2:((m+1:Nat):Int)≠0:=by omega
 have n3:(0:Int)≤(m:Int):=by omega
 have n4:(m:Int)<((m+1:Nat):Int):=by omega
 clear hs' hk' hX'
 refine Br.liv_seq ?_
 refine lg_region (ops:=snOps 36) (n:=36) (il:=[0,1,2,3,4,5,6,7,8,9,10,11,12,13,14,15,16]) (by kernel_rfl) ?_
 refine wm (v:=.int .i64 0) hA rfl rfl rfl (hA.get rfl) rfl rfl (fun a hA=>?_)
 refine wop (v:=.bool false) (op:=.binOp .neq 26 (.tmp 164) (.const (.int .i64 0)) 26) hA rfl rfl rfl (by kernel_rfl) rfl rfl (fun o hop d=>by unfold execOp;simp only [hop,hA.get (t:=164) rfl];go_simp) (fun a hA=>?_)
 refine wm (v:=.bool false) hA rfl rfl rfl (hA.get rfl) rfl rfl (fun a (hA:Lvs 219 ((166,.bool false)::(165,.bool false)::(164,.int .i64 0)::(24,.slice (some ⟨w1.heap.size,0,none⟩) ((m+1:Nat)) ((m+1:Nat)))::(25,.int .i64 0)::snE (.slice (some ⟨wg,wo,none⟩) wl wc) (.slice ya yl yc) vk vl at_ got bz i [(19,.int .i64 1)]) a)=>?_)
 refine wmg (v:=.slice (some ⟨w1.heap.size,0,none⟩) ((m+1:Nat)) ((m+1:Nat))) hA rfl rfl rfl rfl rfl rfl rfl (hA.get rfl) rfl rfl (fun a hA=>?_)
 have e167:=hA.get (t:=167) rfl
 refine lw_val (v:=.int .i64 ((m+1:Nat))) hA rfl ((hA.wanted (x:=false) rfl rfl rfl rfl).trans rfl) (by decide) (by kernel_rfl) rfl (by decide) (fun d=>run_len rfl Tryd.underlying65 e167) (fun a hA=>?_)
 clear e167
 refine wopg (v:=.bool false) (op:=.binOp .eql 3 (.tmp 168) (.const (.int .i64 0)) 3) hA rfl rfl rfl rfl rfl rfl rfl (by kernel_rfl) rfl rfl (fun o hop d=>by unfold execOp;simp only [hop,hA.get (t:=168) rfl];go_simp;try omega) (fun a hA=>?_)
 refine wop (v:=.bool false) (op:=.pick (.tmp 166) (.const (.bool true)) (.tmp 169)) hA rfl rfl rfl rfl rfl rfl (fun o hop d=>by unfold execOp;simp only [hop,hA.get (t:=166) rfl,hA.get (t:=169) rfl];go_simp) (fun a hA=>?_)
 refine wm (v:=.bool false) hA rfl rfl rfl (hA.get rfl) rfl rfl (fun a hA=>?_)
 refine wmg (v:=.slice (some ⟨w1.heap.size,0,none⟩) ((m+1:Nat)) ((m+1:Nat))) hA rfl rfl rfl rfl rfl rfl rfl (hA.get rfl) rfl rfl (fun a hA=>?_)
 refine wmg (v:=.slice (some ⟨w1.heap.size,0,none⟩) ((m+1:Nat)) ((m+1:Nat))) hA rfl rfl rfl rfl rfl rfl rfl (hA.get rfl) rfl rfl (fun a hA=>?_)
 have e173:=hA.get (t:=173) rfl
 refine lw_val (v:=.int .i64 ((m+1:Nat))) hA rfl ((hA.wanted (x:=false) rfl rfl rfl rfl).trans rfl) (by decide) (by kernel_rfl) rfl (by decide) (fun d=>run_len rfl Tryd.underlying65 e173) (fun a hA=>?_)
 clear e173
 replace hA:Lvs 219 ((174,.int .i64 ((m+1:Nat)))::(172,.slice (some ⟨w1.heap.size,0,none⟩) ((m+1:Nat)) ((m+1:Nat)))::(171,.bool false)::(24,.slice (some ⟨w1.heap.size,0,none⟩) ((m+1:Nat)) ((m+1:Nat)))::(25,.int .i64 0)::snE (.slice (some ⟨wg,wo,none⟩) wl wc) (.slice ya yl yc) vk vl at_ got bz i [(19,.int .i64 1)]) a:=hA.cut ⟨rfl,rfl,rfl,rfl,rfl,rfl,rfl,rfl,rfl,rfl,rfl,rfl,rfl,rfl,rfl,trivial⟩
 refine wopg (v:=.int .i64 ((m:Int))) (op:=.binOp .sub 3 (.tmp 174) (.const (.int .i64 1)) 3) hA rfl rfl rfl rfl rfl rfl rfl rfl rfl rfl (fun o hop d=>by have z9:IntKind.i64.wrap (m:Int)=(m:Int):=(by rw [IntKind.wrap_i64];omega);unfold execOp;simp only [hop,hA.get (t:=174) rfl];go_simp) (fun a hA=>?_)
 refine wopg (v:=.pointer (some ⟨w1.heap.size,m*5,none⟩)) (op:=.indexAddr 65 (.tmp 172) (.tmp 175)) hA rfl rfl rfl rfl rfl rfl rfl rfl rfl rfl (fun o hop d=>by unfold execOp;simp only [hop,hA.get (t:=172) rfl,hA.get (t:=175) rfl];go_simp;try (intro h;omega)) (fun a hA=>?_)
 refine wopg (v:=.pointer (some ⟨w1.heap.size,m*5+3,none⟩)) (op:=.fieldAddr 70 (.tmp 176) 1) hA rfl rfl rfl rfl rfl rfl rfl rfl rfl rfl (fun o hop d=>by unfold execOp;simp only [hop,hA.get (t:=176) rfl];go_simp) (fun a hA=>?_)
 refine wopg (v:=.int .i64 0) (op:=.load 26 (.tmp 177)) hA rfl rfl rfl rfl rfl rfl rfl rfl rfl rfl (fun o hop d=>by have z0:w2.cell? ⟨w1.heap.size,m*5+3,none⟩=some (.int .i64 0):=cd 3 _ d (by decide) rfl;unfold execOp;simp only [hop,hA.get (t:=177) rfl];go_simp) (fun a (hA:Lvs 219 ((178,.int .i64 0)::(177,.pointer (some ⟨w1.heap.size,m*5+3,none⟩))::(176,.pointer (some ⟨w1.heap.size,m*5,none⟩))::(175,.int .i64 ((m:Int)))::(174,.int .i64 ((m+1:Nat)))::(172,.slice (some ⟨w1.heap.size,0,none⟩) ((m+1:Nat)) ((m+1:Nat)))::(171,.bool false)::(24,.slice (some ⟨w1.heap.size,0,none⟩) ((m+1:Nat)) ((m+1:Nat)))::(25,.int .i64 0)::snE (.slice (some ⟨wg,wo,none⟩) wl wc) (.slice ya yl yc) vk vl at_ got bz i [(19,.int .i64 1)]) a)=>?_)
 refine wopg (v:=.bool false) (op:=.binOp .neq 26 (.tmp 178) (.const (.int .i64 0)) 26) hA rfl rfl rfl rfl rfl rfl rfl (by kernel_rfl) rfl rfl (fun o hop d=>by unfold execOp;simp only [hop,hA.get (t:=178) rfl];go_simp) (fun a hA=>?_)
 refine wop (v:=.bool false) (op:=.pick (.tmp 171) (.const (.bool true)) (.tmp 179)) hA rfl rfl rfl rfl rfl rfl (fun o hop d=>by unfold execOp;simp only [hop,hA.get (t:=171) rfl,hA.get (t:=179) rfl];go_simp) (fun a hA=>?_)
 refine Br.liv_region_end ?_
 replace hA:Lvs 219 ((180,.bool false)::(24,.slice (some ⟨w1.heap.size,0,none⟩) ((m+1:Nat)) ((m+1:Nat)))::snE (.slice (some ⟨wg,wo,none⟩) wl wc) (.slice ya yl yc) vk vl at_ got bz i [(19,.int .i64 1)]) a:=hA.cut ⟨rfl,rfl,rfl,rfl,rfl,rfl,rfl,rfl,rfl,rfl,rfl,rfl,trivial⟩
 refine Br.liv_cond (t:=false) (hA.get rfl) ?_
 refine Br.liv_seq ?_
 refine lg_region (ops:=snOps 38) (n:=38) (il:=[0,1]) (by kernel_rfl) ?_
 refine wm (v:=.int .i64 1) hA rfl rfl rfl (hA.get rfl) rfl rfl (fun a hA=>?_)
 refine wop (v:=.bool true) (op:=.binOp .eql 3 (.tmp 181) (.const (.int .i64 1)) 3) hA rfl rfl rfl (by kernel_rfl) rfl rfl (fun o hop d=>by unfold execOp;simp only [hop,hA.get (t:=181) rfl];go_simp) (fun a hA=>?_)
 refine Br.liv_region_end ?_
 replace hA:Lvs 219 ((182,.bool true)::(24,.slice (some ⟨w1.heap.size,0,none⟩) ((m+1:Nat)) ((m+1:Nat)))::snE (.slice (some ⟨wg,wo,none⟩) wl wc) (.slice ya yl yc) vk vl at_ got bz i []) a:=hA.cut ⟨rfl,rfl,rfl,rfl,rfl,rfl,rfl,rfl,rfl,rfl,rfl,trivial⟩
 refine Br.liv_cond (t:=true) (hA.get rfl) ?_
 refine Br.liv_seq ?_
 have g0:(got:Int)<(at_:Int):=by omega
 have g1:(0:Int)≤(got:Int):=by omega
 have g2:(got:Int)<(wl:Int):=by omega
 have cx:∀ d,(w2.at d).cell? ⟨wg,wo+got,none⟩=some (.int .i64 x):=fun d=>(World.cell?_of_block (w:=w) (ho2 wg hxl hxz)).trans hx
 refine lg_draw (ops:=snOps 39) (V:=fun i=>([.bool true,.bool true,.int .i64 got,.int .i64 at_,.bool true,.bool true,.bool true,.slice (some ⟨w1.heap.size,0,none⟩) ((m+1:Nat)) ((m+1:Nat)),.slice (some ⟨w1.heap.size,0,none⟩) ((m+1:Nat)) ((m+1:Nat)),.int .i64 ((m+1:Nat)),.int .i64 ((m:Int)),.pointer (some ⟨w1.heap.size,m*5,none⟩),.pointer (some ⟨w1.heap.size,m*5+4,none⟩),.int .i64 x,.slice (some ⟨wg,wo,none⟩) wl wc,.int .i64 got,.pointer (some ⟨wg,wo+got,none⟩),.int .i64 x,.bool true,.bool true,.bool true]:List Value).getD i undef) (by decide) hA.defers (by kernel_rfl) (by kernel_rfl) (fun i a' listed hAg hcl hr=>?_) (fun a' listed hAg hall=>?_)
 ·have hlt:i<21:=Br.ready_lt hr
  have hq:i=0∨i=1∨i=2∨i=3∨i=4∨i=5∨i=6∨i=7∨i=8∨i=9∨i=10∨i=11∨i=12∨i=13∨i=14∨i=15∨i=16∨i=17∨i=18∨i=19∨i=20:=by omega
  clear hlt
  rcases hq with rfl|rfl|rfl|rfl|rfl|rfl|rfl|rfl|rfl|rfl|rfl|rfl|rfl|rfl|rfl|rfl|rfl|rfl|rfl|rfl|rfl
  ·have e5:=agr_late hA hAg hcl (i0:=20) (p:=[]) (t:=5) hr (by kernel_rfl) (by kernel_rfl) rfl
   exact ⟨_,rfl,.inr ⟨(wanted_none rfl),by kernel_rfl,fun d=>run_move rfl e5⟩⟩
  ·have e183:=agr_own hA hAg hr rfl (j:=0) (by kernel_rfl) rfl (t:=183) rfl (by decide) rfl
   exact ⟨_,rfl,.inr ⟨(wanted_none rfl),by kernel_rfl,fun d=>run_move rfl e183⟩⟩
  ·have e16:=agr_base hA hAg (t:=16) (by kernel_rfl) rfl
   exact ⟨_,rfl,.inr ⟨((agr_wanted hA hAg hr rfl (j:=1) rfl (by kernel_rfl) rfl rfl (by decide) (x:=true) rfl).trans rfl),by kernel_rfl,fun d=>run_move rfl e16⟩⟩
  ·have e15:=agr_base hA hAg (t:=15) (by kernel_rfl) rfl
   exact ⟨_,rfl,.inr ⟨((agr_wanted hA hAg hr rfl (j:=1) rfl (by kernel_rfl) rfl rfl (by decide) (x:=true) rfl).trans rfl),by kernel_rfl,fun d=>run_move rfl e15⟩⟩
  ·have e185:=agr_own hA hAg hr rfl (j:=2) (by kernel_rfl) rfl (t:=185) rfl (by decide) rfl
   have e186:=agr_own hA hAg hr rfl (j:=3) (by kernel_rfl) rfl (t:=186) rfl (by decide) rfl
   obtain ⟨o,ho,hop,hg,haf⟩:∃ o,(snOps 39)[4]?=some o∧o.op=.binOp .lss 3 (.tmp 185) (.tmp 186) 3∧o.guard=some (1,true)∧(o.after.any fun e=>Region.binds .any e && e.on == 1)=true:=⟨_,rfl,rfl,rfl,by kernel_rfl⟩
   exact ⟨o,ho,.inr ⟨(agr_wanted hA hAg hr ho (j:=1) hg haf rfl rfl (by decide) (x:=true) rfl).trans rfl,by rw [hop];first|rfl|kernel_rfl,fun d=>by show _=Result.ok (Next.value (.bool true)) _;unfold execOp;simp only [hop,e185,e186];go_simp⟩⟩
  ·have e184:=agr_own hA hAg hr rfl (j:=1) (by kernel_rfl) rfl (t:=184) rfl (by decide) rfl
   have e187:=agr_own hA hAg hr rfl (j:=4) (by kernel_rfl) rfl (t:=187) rfl (by decide) rfl
   obtain ⟨o,ho,hop,hg⟩:∃ o,(snOps 39)[5]?=some o∧o.op=.pick (.tmp 184) (.tmp 187) (.const (.bool false))∧o.guard=none:=⟨_,rfl,rfl,rfl⟩
   exact ⟨o,ho,.inr ⟨wanted_none hg,by rw [hop];first|rfl|kernel_rfl,fun d=>by show _=Result.ok (Next.value (.bool true)) _;unfold execOp;simp only [hop,e184,e187];go_simp⟩⟩
  ·have e188:=agr_own hA hAg hr rfl (j:=5) (by kernel_rfl) rfl (t:=188) rfl (by decide) rfl
   exact ⟨_,rfl,.inr ⟨(wanted_none rfl),by kernel_rfl,fun d=>run_move rfl e188⟩⟩
  ·have e24:=agr_base hA hAg (t:=24) (by kernel_rfl) rfl
   exact ⟨_,rfl,.inr ⟨((agr_wanted hA hAg hr rfl (j:=6) rfl (by kernel_rfl) rfl rfl (by decide) (x:=true) rfl).trans rfl),by kernel_rfl,fun d=>run_move rfl e24⟩⟩
  ·have e24:=agr_base hA hAg (t:=24) (by kernel_rfl) rfl
   exact ⟨_,rfl,.inr ⟨((agr_wanted hA hAg hr rfl (j:=6) rfl (by kernel_rfl) rfl rfl (by decide) (x:=true) rfl).trans rfl),by kernel_rfl,fun d=>run_move rfl e24⟩⟩
  ·have e191:=agr_own hA hAg hr rfl (j:=8) (by kernel_rfl) rfl (t:=191) rfl (by decide) rfl
   exact ⟨_,rfl,.inr ⟨((agr_wanted hA hAg hr rfl (j:=6) rfl (by kernel_rfl) rfl rfl (by decide) (x:=true) rfl).trans rfl),by kernel_rfl,fun d=>run_len rfl Tryd.underlying65 e191⟩⟩
  ·have e192:=agr_own hA hAg hr rfl (j:=9) (by kernel_rfl) rfl (t:=192) rfl (by decide) rfl
   obtain ⟨o,ho,hop,hg,haf⟩:∃ o,(snOps 39)[10]?=some o∧o.op=.binOp .sub 3 (.tmp 192) (.const (.int .i64 1)) 3∧o.guard=some (6,true)∧(o.after.any fun e=>Region.binds .any e && e.on == 6)=true:=⟨_,rfl,rfl,rfl,by kernel_rfl⟩
   exact ⟨o,ho,.inr ⟨(agr_wanted hA hAg hr ho (j:=6) hg haf rfl rfl (by decide) (x:=true) rfl).trans rfl,by rw [hop];first|rfl|kernel_rfl,fun d=>by show _=Result.ok (Next.value (.int .i64 ((m:Int)))) _;have z9:IntKind.i64.wrap (m:Int)=(m:Int):=(by rw [IntKind.wrap_i64];omega);unfold execOp;simp only [hop,e192];go_simp⟩⟩
  ·have e190:=agr_own hA hAg hr rfl (j:=7) (by kernel_rfl) rfl (t:=190) rfl (by decide) rfl
   have e193:=agr_own hA hAg hr rfl (j:=10) (by kernel_rfl) rfl (t:=193) rfl (by decide) rfl
   obtain ⟨o,ho,hop,hg,haf⟩:∃ o,(snOps 39)[11]?=some o∧o.op=.indexAddr 65 (.tmp 190) (.tmp 193)∧o.guard=some (6,true)∧(o.after.any fun e=>Region.binds .any e && e.on == 6)=true:=⟨_,rfl,rfl,rfl,by kernel_rfl⟩
   exact ⟨o,ho,.inr ⟨(agr_wanted hA hAg hr ho (j:=6) hg haf rfl rfl (by decide) (x:=true) rfl).trans rfl,by rw [hop];first|rfl|kernel_rfl,fun d=>by show _=Result.ok (Next.value (.pointer (some ⟨w1.heap.size,m*5,none⟩))) _;unfold execOp;simp only [hop,e190,e193];go_simp;try (intro h;omega)⟩⟩
  ·have e194:=agr_own hA hAg hr rfl (j:=11) (by kernel_rfl) rfl (t:=194) rfl (by decide) rfl
   obtain ⟨o,ho,hop,hg,haf⟩:∃ o,(snOps 39)[12]?=some o∧o.op=.fieldAddr 70 (.tmp 194) 2∧o.guard=some (6,true)∧(o.after.any fun e=>Region.binds .any e && e.on == 6)=true:=⟨_,rfl,rfl,rfl,by kernel_rfl⟩
   exact ⟨o,ho,.inr ⟨(agr_wanted hA hAg hr ho (j:=6) hg haf rfl rfl (by decide) (x:=true) rfl).trans rfl,by rw [hop];first|rfl|kernel_rfl,fun d=>by show _=Result.ok (Next.value (.pointer (some ⟨w1.heap.size,m*5+4,none⟩))) _;unfold execOp;simp only [hop,e194];go_simp⟩⟩
  ·have e195:=agr_own hA hAg hr rfl (j:=12) (by kernel_rfl) rfl (t:=195) rfl (by decide) rfl
   obtain ⟨o,ho,hop,hg,haf⟩:∃ o,(snOps 39)[13]?=some o∧o.op=.load 3 (.tmp 195)∧o.guard=some (6,true)∧(o.after.any fun e=>Region.binds .any e && e.on == 6)=true:=⟨_,rfl,rfl,rfl,by kernel_rfl⟩
   exact ⟨o,ho,.inr ⟨(agr_wanted hA hAg hr ho (j:=6) hg haf rfl rfl (by decide) (x:=true) rfl).trans rfl,by rw [hop];first|rfl|kernel_rfl,fun d=>by show _=Result.ok (Next.value (.int .i64 x)) _;have z0:w2.cell? ⟨w1.heap.size,m*5+4,none⟩=some (.int .i64 x):=cd 4 _ d (by decide) rfl;unfold execOp;simp only [hop,e195];go_simp⟩⟩
  ·have e0:=agr_base hA hAg (t:=0) (by kernel_rfl) rfl
   exact ⟨_,rfl,.inr ⟨((agr_wanted hA hAg hr rfl (j:=6) rfl (by kernel_rfl) rfl rfl (by decide) (x:=true) rfl).trans rfl),by kernel_rfl,fun d=>run_move rfl e0⟩⟩
  ·have e16:=agr_base hA hAg (t:=16) (by kernel_rfl) rfl
   exact ⟨_,rfl,.inr ⟨((agr_wanted hA hAg hr rfl (j:=6) rfl (by kernel_rfl) rfl rfl (by decide) (x:=true) rfl).trans rfl),by kernel_rfl,fun d=>run_move rfl e16⟩⟩
  ·have e197:=agr_own hA hAg hr rfl (j:=14) (by kernel_rfl) rfl (t:=197) rfl (by decide) rfl
   have e198:=agr_own hA hAg hr rfl (j:=15) (by kernel_rfl) rfl (t:=198) rfl (by decide) rfl
   obtain ⟨o,ho,hop,hg,haf⟩:∃ o,(snOps 39)[16]?=some o∧o.op=.indexAddr 22 (.tmp 197) (.tmp 198)∧o.guard=some (6,true)∧(o.after.any fun e=>Region.binds .any e && e.on == 6)=true:=⟨_,rfl,rfl,rfl,by kernel_rfl⟩
   exact ⟨o,ho,.inr ⟨(agr_wanted hA hAg hr ho (j:=6) hg haf rfl rfl (by decide) (x:=true) rfl).trans rfl,by rw [hop];first|rfl|kernel_rfl,fun d=>by show _=Result.ok (Next.value (.pointer (some ⟨wg,wo+got,none⟩))) _;unfold execOp;simp only [hop,e197,e198];go_simp⟩⟩
  ·have e199:=agr_own hA hAg hr rfl (j:=16) (by kernel_rfl) rfl (t:=199) rfl (by decide) rfl
   obtain ⟨o,ho,hop,hg,haf⟩:∃ o,(snOps 39)[17]?=some o∧o.op=.load 3 (.tmp 199)∧o.guard=some (6,true)∧(o.after.any fun e=>Region.binds .any e && e.on == 6)=true:=⟨_,rfl,rfl,rfl,by kernel_rfl⟩
   exact ⟨o,ho,.inr ⟨(agr_wanted hA hAg hr ho (j:=6) hg haf rfl rfl (by decide) (x:=true) rfl).trans rfl,by rw [hop];first|rfl|kernel_rfl,fun d=>by show _=Result.ok (Next.value (.int .i64 x)) _;have z0:=cx d;unfold execOp;simp only [hop,e199];go_simp⟩⟩
  ·have e196:=agr_own hA hAg hr rfl (j:=13) (by kernel_rfl) rfl (t:=196) rfl (by decide) rfl
   have e200:=agr_own hA hAg hr rfl (j:=17) (by kernel_rfl) rfl (t:=200) rfl (by decide) rfl
   obtain ⟨o,ho,hop,hg,haf⟩:∃ o,(snOps 39)[18]?=some o∧o.op=.binOp .eql 3 (.tmp 196) (.tmp 200) 3∧o.guard=some (6,true)∧(o.after.any fun e=>Region.binds .any e && e.on == 6)=true:=⟨_,rfl,rfl,rfl,by kernel_rfl⟩
   exact ⟨o,ho,.inr ⟨(agr_wanted hA hAg hr ho (j:=6) hg haf rfl rfl (by decide) (x:=true) rfl).trans rfl,by rw [hop];first|rfl|kernel_rfl,fun d=>by show _=Result.ok (Next.value (.bool true)) _;unfold execOp;simp only [hop,e196,e200];go_simp⟩⟩
  ·have e189:=agr_own hA hAg hr rfl (j:=6) (by kernel_rfl) rfl (t:=189) rfl (by decide) rfl
   have e201:=agr_own hA hAg hr rfl (j:=18) (by kernel_rfl) rfl (t:=201) rfl (by decide) rfl
   obtain ⟨o,ho,hop,hg⟩:∃ o,(snOps 39)[19]?=some o∧o.op=.pick (.tmp 189) (.tmp 201) (.const (.bool false))∧o.guard=none:=⟨_,rfl,rfl,rfl⟩
   exact ⟨o,ho,.inr ⟨wanted_none hg,by rw [hop];first|rfl|kernel_rfl,fun d=>by show _=Result.ok (Next.value (.bool true)) _;unfold execOp;simp only [hop,e189,e201];go_simp⟩⟩
  ·have e202:=agr_own hA hAg hr rfl (j:=19) (by kernel_rfl) rfl (t:=202) rfl (by decide) rfl
   exact ⟨_,rfl,.inr ⟨(wanted_none rfl),by kernel_rfl,fun d=>run_assign rfl e202⟩⟩
 ·replace hA:Lvs 219 (snE (.slice (some ⟨wg,wo,none⟩) wl wc) (.slice ya yl yc) vk vl at_ got bz i []) a':=lvs_agr hA hAg hall (fun p hp=>by
   simp only [List.mem_cons,List.not_mem_nil,or_false] at hp
   rcases hp with rfl|rfl|rfl|rfl|rfl|rfl|rfl|rfl|rfl
   ·exact .inr ⟨by kernel_rfl,rfl⟩
   ·exact .inr ⟨by kernel_rfl,rfl⟩
   ·exact .inl ⟨20,_,rfl,rfl,rfl,by decide⟩
   ·exact .inr ⟨by kernel_rfl,rfl⟩
   ·exact .inr ⟨by kernel_rfl,rfl⟩
   ·exact .inr ⟨by kernel_rfl,rfl⟩
   ·exact .inr ⟨by kernel_rfl,rfl⟩
   ·exact .inr ⟨by kernel_rfl,rfl⟩
   ·exact .inr ⟨by kernel_rfl,rfl⟩)
  clear hAg hall
  refine lg_region (ops:=snOps 40) (n:=40) (il:=[0,1,2]) (by kernel_rfl) ?_
  refine wm (v:=.int .i64 got) hA rfl rfl rfl (hA.get rfl) rfl rfl (fun a hA=>?_)
  refine wop (v:=.int .i64 (((got+1:Nat):Int))) (op:=.binOp .add 3 (.tmp 203) (.const (.int .i64 1)) 3) hA rfl rfl rfl rfl rfl rfl (fun o hop d=>by have z0:IntKind.i64.wrap ((got:Int)+1)=((got+1:Nat):Int):=(by rw [IntKind.wrap_i64];omega);unfold execOp;simp only [hop,hA.get (t:=203) rfl];go_simp) (fun a hA=>?_)
  refine wt (v:=.int .i64 (((got+1:Nat):Int))) hA rfl rfl rfl (hA.get rfl) rfl rfl (fun a hA=>?_)
  refine Br.liv_region_end ?_
  exact hn a w2 hz2 ho2 hX2 (hA.cut ⟨rfl,rfl,rfl,rfl,rfl,rfl,rfl,rfl,rfl,trivial⟩)
theorem sn_stop {l:List OpD}{Stop:Goroutine→World→Prop}{w:World}{wa ya:Option Addr}{wl wc yl yc at_ got bz:Nat}{vk vl:Value}{a:Act}(hA:Lvs 219 (snE (.slice wa wl wc) (.slice ya yl yc) vk vl at_ got bz yl []) a)(k:List Item)(cs:List Frame)
  (hn:∀ a',Lvs 219 [(5,.bool true),(15,.int .i64 at_),(16,.int .i64 got)] a'→∀ d,Stop (G (Frame.enter Tryd.prog 20 #[vl] .normal) ((base 8).at a' (.inRegion (snOps 41) [1] :: .code (.seq (rs 42) .ret)::k)::cs)) (w.at d)) :
  SL l Stop a (.code snLoop::.inLoop snLoop::.inBlock 0::.code snEnd::k) cs w:=by
 unfold snLoop
 refine Br.liv_seq ?_
 refine Br.liv_seq ?_
 refine lg_region (ops:=snOps 16) (n:=16) (il:=[0,1,2,3,4,5,6]) (by kernel_rfl) ?_
 refine wm (v:=.int .i64 yl) hA rfl rfl rfl (hA.get rfl) rfl rfl (fun a hA=>?_)
 refine wm (v:=.slice ya yl yc) hA rfl rfl rfl (hA.get rfl) rfl rfl (fun a hA=>?_)
 have e93:=hA.get (t:=93) rfl
 refine lw_val (v:=.int .i64 yl) hA rfl (wanted_none rfl) (by decide) (by kernel_rfl) rfl (by decide) (fun d=>run_len rfl Tryd.underlying23 e93) (fun a hA=>?_)
 clear e93
 refine wop (v:=.bool false) (op:=.binOp .lss 3 (.tmp 92) (.tmp 94) 3) hA rfl rfl rfl rfl rfl rfl (fun o hop d=>by unfold execOp;simp only [hop,hA.get (t:=92) rfl,hA.get (t:=94) rfl];go_simp) (fun a hA=>?_)
 refine wm (v:=.bool false) hA rfl rfl rfl (hA.get rfl) rfl rfl (fun a hA=>?_)
 refine wu hA rfl rfl rfl rfl rfl rfl rfl rfl (fun a hA=>?_)
 refine wop (v:=.bool false) (op:=.pick (.tmp 96) (.tmp 97) (.const (.bool false))) hA rfl rfl rfl rfl rfl rfl (fun o hop d=>by unfold execOp;simp only [hop,hA.get (t:=96) rfl,hA.get (t:=97) rfl];go_simp) (fun a hA=>?_)
 refine Br.liv_region_end ?_
 replace hA:Lvs 219 ((98,.bool false)::snE (.slice wa wl wc) (.slice ya yl yc) vk vl at_ got bz yl []) a:=hA.cut ⟨rfl,rfl,rfl,rfl,rfl,rfl,rfl,rfl,rfl,rfl,trivial⟩
 refine Br.liv_cond (t:=false) (hA.get rfl) ?_
 refine Br.liv_exit (k':=.code snEnd::k) (by rfl) ?_
 unfold snEnd
 refine Br.liv_seq ?_
 refine lg_region (ops:=snOps 41) (n:=41) (il:=[0,1]) (by kernel_rfl) ?_
 refine wm (v:=vl) hA rfl rfl rfl (hA.get rfl) rfl rfl (fun a hA=>?_)
 have e205:=hA.get (t:=205) rfl
 exact lv_enter rfl rfl (by decide) rfl Tryd.func20 rfl rfl (by simp only [List.map_toArray,List.map_cons,List.map_nil,e205]) (hn a (hA.cut ⟨rfl,rfl,rfl,trivial⟩))
theorem sn_ans {l:List OpD}{Stop:Goroutine→World→Prop}{w:World}{at_ got:Nat}(h1:got≤at_)(h2:at_ - got≤6)(h3:at_<4398046511104){a:Act}(hA:Lvs 219 [(5,.bool true),(15,.int .i64 at_),(16,.int .i64 got)] a)(k:List Item)(cs:List Frame)
  (hn:∀ a',Lvs 219 [(4,.bool true)] a'→SL l Stop a' (.code .ret::k) cs w) :
  SL l Stop a (.inRegion (snOps 41) [] :: .code (.seq (rs 42) .ret)::k) cs w:=by
 have g0:(got:Int)≤(at_:Int):=by omega
 refine Br.liv_region_end ?_
 refine Br.liv_seq ?_
 refine lg_region (ops:=snOps 42) (n:=42) (il:=[0,1,2,3,4,5,6,7,8,9,10,11,12]) (by kernel_rfl) ?_
 refine wm (v:=.bool true) hA rfl rfl rfl (hA.get rfl) rfl rfl (fun a hA=>?_)
 refine wm (v:=.bool true) hA rfl rfl rfl (hA.get rfl) rfl rfl (fun a hA=>?_)
 refine wmg (v:=.int .i64 got) hA rfl rfl rfl rfl rfl rfl rfl (hA.get rfl) rfl rfl (fun a hA=>?_)
 refine wmg (v:=.int .i64 at_) hA rfl rfl rfl rfl rfl rfl rfl (hA.get rfl) rfl rfl (fun a hA=>?_)
 refine wopg (v:=.bool true) (op:=.binOp .leq 3 (.tmp 209) (.tmp 210) 3) hA rfl rfl rfl rfl rfl rfl rfl rfl rfl rfl (fun o hop d=>by unfold execOp;simp only [hop,hA.get (t:=209) rfl,hA.get (t:=210) rfl];go_simp) (fun a hA=>?_)
 refine wop (v:=.bool true) (op:=.pick (.tmp 208) (.tmp 211) (.const (.bool false))) hA rfl rfl rfl rfl rfl rfl (fun o hop d=>by unfold execOp;simp only [hop,hA.get (t:=208) rfl,hA.get (t:=211) rfl];go_simp) (fun a hA=>?_)
 refine wm (v:=.bool true) hA rfl rfl rfl (hA.get rfl) rfl rfl (fun a hA=>?_)
 refine wmg (v:=.int .i64 at_) hA rfl rfl rfl rfl rfl rfl rfl (hA.get rfl) rfl rfl (fun a hA=>?_)
 refine wmg (v:=.int .i64 got) hA rfl rfl rfl rfl rfl rfl rfl (hA.get rfl) rfl rfl (fun a hA=>?_)
 refine wopg (v:=.int .i64 (((at_ - got:Nat):Int))) (op:=.binOp .sub 3 (.tmp 214) (.tmp 215) 3) hA rfl rfl rfl rfl rfl rfl rfl rfl rfl rfl (fun o hop d=>by have z0:IntKind.i64.wrap ((at_:Int) - (got:Int))=((at_ - got:Nat):Int):=(by rw [IntKind.wrap_i64];omega);unfold execOp;simp only [hop,hA.get (t:=214) rfl,hA.get (t:=215) rfl];go_simp) (fun a hA=>?_)
 refine wopg (v:=.bool true) (op:=.binOp .leq 3 (.tmp 216) (.const (.int .i64 6)) 3) hA rfl rfl rfl rfl rfl rfl rfl rfl rfl rfl (fun o hop d=>by have z0:((at_ - got:Nat):Int)≤6:=(by omega);unfold execOp;simp only [hop,hA.get (t:=216) rfl];go_simp) (fun a hA=>?_)
 refine wop (v:=.bool true) (op:=.pick (.tmp 213) (.tmp 217) (.const (.bool false))) hA rfl rfl rfl rfl rfl rfl (fun o hop d=>by unfold execOp;simp only [hop,hA.get (t:=213) rfl,hA.get (t:=217) rfl];go_simp) (fun a (hA:Lvs 219 [(218,.bool true),(217,.bool true),(216,.int .i64 (((at_ - got:Nat):Int))),(215,.int .i64 got),(214,.int .i64 at_),(213,.bool true),(212,.bool true),(211,.bool true),(210,.int .i64 at_),(209,.int .i64 got),(208,.bool true),(207,.bool true),(5,.bool true),(15,.int .i64 at_),(16,.int .i64 got)] a)=>?_)
 refine wt (v:=.bool true) hA rfl rfl rfl (hA.get rfl) rfl rfl (fun a hA=>?_)
 refine Br.liv_region_end ?_
 exact hn a (hA.cut ⟨rfl,trivial⟩)
end Go.Proofs.YtcgabodkegcpgaaDoor
