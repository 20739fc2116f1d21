/- Sends: its pieces, and its way to the loop. -/
import Derived.Test.YtcgabodkegcpgaaDoorEnx
set_option linter.unusedVariables false
set_option linter.unusedSimpArgs false
set_option maxHeartbeats 20000000
set_option maxRecDepth 100000
namespace Go.Proofs.YtcgabodkegcpgaaDoor
open Go.Conc Go.RowKit
open Br (X OpD KO SO SP sfO Lk Fit Must DL Liv Clear)
noncomputable def snOps (n:Nat):Array Oper:=((Tryd.f8.body).bind (regionOf n)).getD #[]
noncomputable abbrev rs (n:Nat):Code:=.region n (snOps n) false
noncomputable def snOver:Code:=.seq (rs 34) (.seq (rs 35) (.seq (rs 36) (.cond (.tmp 180) (rs 37) (.seq (rs 38) (.cond (.tmp 182) (.seq (.region 39 (snOps 39) true) (rs 40)) .skip)))))
noncomputable def snGot:Code:=.seq (rs 32) (.seq (rs 33) (.cond (.tmp 155) snOver .skip))
noncomputable def snPick:Code:=.seq (rs 31) snGot
noncomputable def snSet:Code:=.seq (rs 29) (rs 30)
noncomputable def snBegin:Code:=.seq (rs 23) (.seq (.seq (rs 24) (.cond (.tmp 125) (.seq (rs 25) (.seq (rs 26) (rs 27))) .skip)) (.seq (rs 28) snSet))
noncomputable def snLook:Code:=.seq (.seq (rs 21) (.cond (.tmp 118) (.exit 1) .skip)) (.seq (.seq (rs 22) (.cond (.tmp 122) snBegin .skip)) snPick)
noncomputable def snTurn:Code:=.seq (rs 18) (.seq (.seq (rs 19) (.cond (.tmp 104) (rs 20) .skip)) snLook)
noncomputable def snLoop:Code:=.seq (.seq (rs 16) (.cond (.tmp 98) .skip (.exit 0))) (.seq (.block 1 snTurn) (rs 17))
noncomputable def snEnd:Code:=.seq (rs 41) (.seq (rs 42) .ret)
noncomputable def snMid:Code:=.seq (rs 11) (.seq (rs 12) (.seq (rs 13) (.seq (rs 14) (.seq (.seq (rs 15) (.block 0 (.loop snLoop))) snEnd))))
noncomputable def snRest:Code:=.seq (rs 8) (.seq (rs 9) (.seq (rs 10) snMid))
noncomputable def snBody:Code:=.seq (rs 0) (.seq (rs 1) (.seq (rs 2) (.seq (.seq (rs 3) (.cond (.tmp 41) (.seq (rs 4) .ret) .skip)) (.seq (rs 5) (.seq (.seq (rs 6) (.cond (.tmp 45) (.seq (rs 7) .ret) .skip)) snRest)))))
abbrev SL (l:List OpD)(Stop:Goroutine→World→Prop)(a:Act)(k:List Item)(cs:List Frame)(w:World):Prop:=Liv Tryd.prog true true (sfO l) Stop (G ((base 8).at a k) cs) w
abbrev snE (vw vy vk vl:Value)(at_ got:Int)(bz:Nat)(i:Int)(r:List (Nat × Value)):List (Nat × Value):=(0,vw)::(1,vy)::(5,.bool true)::(6,vk)::(8,vl)::(15,.int .i64 at_)::(16,.int .i64 got)::(17,.pointer (some ⟨bz,0,none⟩))::(18,.int .i64 i)::r
theorem sn_body:Tryd.f8.body=some snBody:=by kernel_rfl
theorem sn_enter (v0 v1:Value):∃ a,Frame.enter Tryd.prog 8 #[v0,v1] .normal=(base 8).at a [.code snBody]∧Lvs 219 [(0,v0),(1,v1)] a:=by
 refine ⟨_,enter_at (c:=snBody) _ Tryd.func8 sn_body,?_⟩
 have e:Tryd.f8.ntmps=219:=by kernel_rfl
 refine ⟨by simp [e],rfl,fun p hp=>?_⟩
 simp only [List.mem_cons,List.not_mem_nil,or_false] at hp
 rcases hp with rfl|rfl<;>simp [e]
theorem sn_a {Stop:Goroutine→World→Prop}{w:World}(T:Tab w){vw vy:Value}{a:Act}(hA:Lvs 219 [(0,vw),(1,vy)] a)(k:List Item)(cs:List Frame)
  (hn:∀ a' w' (kb:Kb) (b:Lb),Grown w w'→w.heap.size≤kb.bk→w.heap.size≤kb.bf→w.heap.size≤kb.bs→w.heap.size≤kb.bd→(∀ r,Co kb [] (kNew 16 3 1) (fun _=>none) r (fun _=>none) 1 w')→LibM kb [] (fun _=>none) w' b (kNew 16 3 1).nS (b.bl+1) (fun _=>none) (fun _=>.slice none 0 0) (fun _=>0) (fun _=>[])→(w.heap.size≤b.bu∧w.heap.size≤b.bn)→Lvs 219 [(0,vw),(1,vy),(5,.bool true),(6,.pointer (some ⟨kb.bk,0,none⟩)),(8,.pointer (some ⟨b.bl,0,none⟩))] a'→SL [] Stop a' (.code snRest::k) cs w') :
  SL [] Stop a (.code snBody::k) cs w:=by
 unfold snBody
 refine Br.liv_seq ?_
 refine lg_region (ops:=snOps 0) (n:=0) (il:=[0]) (by kernel_rfl) ?_
 refine wt (v:=.bool false) hA rfl rfl rfl rfl rfl rfl (fun a hA=>?_)
 refine Br.liv_region_end ?_
 replace hA:Lvs 219 [(0,vw),(1,vy)] a:=hA.cut ⟨rfl,rfl,trivial⟩
 refine Br.liv_seq ?_
 refine lg_region (ops:=snOps 1) (n:=1) (il:=[0,1]) (by kernel_rfl) ?_
 refine lw_call (vs:=#[]) hA rfl rfl (by decide) rfl rfl (by decide) Tryd.func9 rfl rfl (by simp) (fun fr cs d=>must_works T fr cs d) (fun u w1 hR a hA=>?_)
 obtain ⟨hG1,rfl⟩:=hR
 replace hA:Lvs 219 [(26,.bool true),(0,vw),(1,vy)] a:=hA
 refine wt (v:=.bool true) hA rfl rfl rfl (hA.get rfl) rfl rfl (fun a hA=>?_)
 refine Br.liv_region_end ?_
 replace hA:Lvs 219 [(0,vw),(1,vy),(5,.bool true)] a:=hA.cut ⟨rfl,rfl,rfl,trivial⟩
 have T1:Tab w1:=T.same (hG1.old 0 T.lt)
 refine Br.liv_seq ?_
 refine lg_region (ops:=snOps 2) (n:=2) (il:=[0,1,2,3,4,5,6]) (by kernel_rfl) ?_
 refine wop (v:=.agg #[.int .i64 16,.int .i64 3,.int .i64 1]) (op:=.build 30 #[(0,.const (.int .i64 16)),(1,.const (.int .i64 3)),(2,.const (.int .i64 1))]) hA rfl rfl rfl rfl rfl rfl (fun o hop d=>by unfold execOp;simp only [hop];go_simp;try rfl) (fun a hA=>?_)
 have e28:=hA.get (t:=28) rfl
 refine lw_call (vs:=#[.agg #[.int .i64 16,.int .i64 3,.int .i64 1]]) hA rfl rfl (by decide) rfl rfl (by decide) Tryd.func10 rfl rfl (by simp only [List.map_toArray,List.map_cons,List.map_nil,e28]) (fun fr cs d=>must_knewX T1 16 3 1 (by omega) (by omega) (by omega) (by omega) (by omega) fr cs d) (fun u w2 hR a hA=>?_)
 obtain ⟨kb,rfl,hG2,g1,g2,g3,g4,hco⟩:=hR
 clear e28
 replace hA:Lvs 219 [(29,.tuple #[.pointer (some ⟨kb.bk,0,none⟩),.int .i64 0]),(28,.agg #[.int .i64 16,.int .i64 3,.int .i64 1]),(0,vw),(1,vy),(5,.bool true)] a:=hA
 refine wm (v:=.tuple #[.pointer (some ⟨kb.bk,0,none⟩),.int .i64 0]) hA rfl rfl rfl (hA.get rfl) rfl rfl (fun a hA=>?_)
 refine lw_val (v:=.pointer (some ⟨kb.bk,0,none⟩)) hA rfl (wanted_none rfl) (by decide) (by kernel_rfl) rfl (by decide) (fun d=>run_extract rfl (hA.get rfl) rfl) (fun a hA=>?_)
 refine lw_val (v:=.int .i64 0) hA rfl (wanted_none rfl) (by decide) (by kernel_rfl) rfl (by decide) (fun d=>run_extract rfl (hA.get rfl) rfl) (fun a hA=>?_)
 refine wt (v:=.pointer (some ⟨kb.bk,0,none⟩)) hA rfl rfl rfl (hA.get rfl) rfl rfl (fun a hA=>?_)
 refine wt (v:=.int .i64 0) hA rfl rfl rfl (hA.get rfl) rfl rfl (fun a hA=>?_)
 refine Br.liv_region_end ?_
 replace hA:Lvs 219 [(0,vw),(1,vy),(5,.bool true),(6,.pointer (some ⟨kb.bk,0,none⟩)),(7,.int .i64 0)] a:=hA.cut ⟨rfl,rfl,rfl,rfl,rfl,trivial⟩
 refine Br.liv_seq ?_
 refine Br.liv_seq ?_
 refine lg_region (ops:=snOps 3) (n:=3) (il:=[0,1,2,3,4,5,6,7,8,9]) (by kernel_rfl) ?_
 refine wm (v:=.bool true) hA rfl rfl rfl (hA.get rfl) rfl rfl (fun a hA=>?_)
 refine wop (v:=.bool false) (op:=.unOp .not 4 (.tmp 32)) hA rfl rfl rfl rfl rfl rfl (fun o hop d=>by unfold execOp;simp only [hop,hA.get (t:=32) rfl];go_simp) (fun a hA=>?_)
 refine wm (v:=.bool false) hA rfl rfl rfl (hA.get rfl) rfl rfl (fun a hA=>?_)
 refine wmg (v:=.pointer (some ⟨kb.bk,0,none⟩)) hA rfl rfl rfl rfl rfl rfl rfl (hA.get rfl) rfl rfl (fun a (hA:Lvs 219 [(35,.pointer (some ⟨kb.bk,0,none⟩)),(34,.bool false),(33,.bool false),(32,.bool true),(0,vw),(1,vy),(5,.bool true),(6,.pointer (some ⟨kb.bk,0,none⟩)),(7,.int .i64 0)] a)=>?_)
 refine wopg (v:=.bool false) (op:=.binOp .eql 25 (.tmp 35) (.const (.pointer none)) 25) hA rfl rfl rfl rfl rfl rfl rfl (by kernel_rfl) rfl rfl (fun o hop d=>by unfold execOp;simp only [hop,hA.get (t:=35) rfl];go_simp) (fun a hA=>?_)
 refine wop (v:=.bool false) (op:=.pick (.tmp 34) (.const (.bool true)) (.tmp 36)) hA rfl rfl rfl rfl rfl rfl (fun o hop d=>by unfold execOp;simp only [hop,hA.get (t:=34) rfl,hA.get (t:=36) rfl];go_simp) (fun a hA=>?_)
 refine wm (v:=.bool false) hA rfl rfl rfl (hA.get rfl) rfl rfl (fun a hA=>?_)
 refine wmg (v:=.int .i64 0) hA rfl rfl rfl rfl rfl rfl rfl (hA.get rfl) rfl rfl (fun a hA=>?_)
 refine wopg (v:=.bool false) (op:=.binOp .neq 26 (.tmp 39) (.const (.int .i64 0)) 26) hA rfl rfl rfl rfl rfl rfl rfl (by kernel_rfl) rfl rfl (fun o hop d=>by unfold execOp;simp only [hop,hA.get (t:=39) rfl];go_simp) (fun a hA=>?_)
 refine wop (v:=.bool false) (op:=.pick (.tmp 38) (.const (.bool true)) (.tmp 40)) hA rfl rfl rfl rfl rfl rfl (fun o hop d=>by unfold execOp;simp only [hop,hA.get (t:=38) rfl,hA.get (t:=40) rfl];go_simp) (fun a hA=>?_)
 refine Br.liv_region_end ?_
 replace hA:Lvs 219 [(41,.bool false),(0,vw),(1,vy),(5,.bool true),(6,.pointer (some ⟨kb.bk,0,none⟩))] a:=hA.cut ⟨rfl,rfl,rfl,rfl,rfl,trivial⟩
 refine Br.liv_cond (t:=false) (hA.get rfl) ?_
 refine Br.liv_skip ?_
 refine Br.liv_seq ?_
 refine lg_region (ops:=snOps 5) (n:=5) (il:=[0,1,2]) (by kernel_rfl) ?_
 refine wm (v:=.pointer (some ⟨kb.bk,0,none⟩)) hA rfl rfl rfl (hA.get rfl) rfl rfl (fun a hA=>?_)
 have e42:=hA.get (t:=42) rfl
 refine lw_call (vs:=#[.pointer (some ⟨kb.bk,0,none⟩)]) hA rfl rfl (by decide) rfl rfl (by decide) Tryd.func16 rfl rfl (by simp only [List.map_toArray,List.map_cons,List.map_nil,e42]) (fun fr cs d=>must_lnew (hco 0) fr cs d) (fun u w3 hR a hA=>?_)
 obtain ⟨hG3,b,rfl,hbu,hlm⟩:=hR
 clear e42
 replace hA:Lvs 219 [(43,.pointer (some ⟨b.bl,0,none⟩)),(42,.pointer (some ⟨kb.bk,0,none⟩)),(41,.bool false),(0,vw),(1,vy),(5,.bool true),(6,.pointer (some ⟨kb.bk,0,none⟩))] a:=hA
 refine wt (v:=.pointer (some ⟨b.bl,0,none⟩)) hA rfl rfl rfl (hA.get rfl) rfl rfl (fun a hA=>?_)
 refine Br.liv_region_end ?_
 replace hA:Lvs 219 [(0,vw),(1,vy),(5,.bool true),(6,.pointer (some ⟨kb.bk,0,none⟩)),(8,.pointer (some ⟨b.bl,0,none⟩))] a:=hA.cut ⟨rfl,rfl,rfl,rfl,rfl,trivial⟩
 refine Br.liv_seq ?_
 refine Br.liv_seq ?_
 refine lg_region (ops:=snOps 6) (n:=6) (il:=[0,1]) (by kernel_rfl) ?_
 refine wm (v:=.pointer (some ⟨b.bl,0,none⟩)) hA rfl rfl rfl (hA.get rfl) rfl rfl (fun a hA=>?_)
 refine wop (v:=.bool false) (op:=.binOp .eql 58 (.tmp 44) (.const (.pointer none)) 58) hA rfl rfl rfl (by kernel_rfl) rfl rfl (fun o hop d=>by unfold execOp;simp only [hop,hA.get (t:=44) rfl];go_simp) (fun a hA=>?_)
 refine Br.liv_region_end ?_
 replace hA:Lvs 219 [(45,.bool false),(0,vw),(1,vy),(5,.bool true),(6,.pointer (some ⟨kb.bk,0,none⟩)),(8,.pointer (some ⟨b.bl,0,none⟩))] a:=hA.cut ⟨rfl,rfl,rfl,rfl,rfl,rfl,trivial⟩
 refine Br.liv_cond (t:=false) (hA.get rfl) ?_
 refine Br.liv_skip ?_
 have s1:=hG1.size
 have s2:=hG2.size
 exact hn a w3 kb b ((hG1.trans hG2).trans hG3) (by omega) (by omega) (by omega) (by omega) (fun r=>(hco r).grown hG3) hlm ⟨by omega,by omega⟩ (hA.cut ⟨rfl,rfl,rfl,rfl,rfl,trivial⟩)
theorem sn_to8 {l:List OpD}{Stop:Goroutine→World→Prop}{w:World}{vw vy vk vl:Value}{a:Act}{R:Code}(hA:Lvs 219 [(0,vw),(1,vy),(5,.bool true),(6,vk),(8,vl)] a)(k:List Item)(cs:List Frame)
  (hn:∀ a',Lvs 219 [(0,vw),(1,vy),(5,.bool true),(6,vk),(8,vl)] a'→∀ d,Stop (G (Frame.enter Tryd.prog 23 #[vl,.int .i64 0,.agg #[.int .i64 7,.int .i64 0,.int .i64 0]] .normal) ((base 8).at a' (.inRegion (snOps 8) [2,3,4,5,6,7,8] :: .code R::k)::cs)) (w.at d)) :
  SL l Stop a (.code (.seq (rs 8) R)::k) cs w:=by
 refine Br.liv_seq ?_
 refine lg_region (ops:=snOps 8) (n:=8) (il:=[0,1,2,3,4,5,6,7,8]) (by kernel_rfl) ?_
 refine wm (v:=vl) hA rfl rfl rfl (hA.get rfl) rfl rfl (fun a hA=>?_)
 refine wop (v:=.agg #[.int .i64 7,.int .i64 0,.int .i64 0]) (op:=.build 38 #[(0,.const (.int .i64 7))]) hA rfl rfl rfl rfl rfl rfl (fun o hop d=>by unfold execOp;simp only [hop];go_simp;try rfl) (fun a hA=>?_)
 have e47:=hA.get (t:=47) rfl
 have e48:=hA.get (t:=48) rfl
 exact lv_enter rfl rfl (by decide) rfl Tryd.func23 rfl rfl (by simp only [List.map_toArray,List.map_cons,List.map_nil,e47,e48];rfl) (hn a (hA.cut ⟨rfl,rfl,rfl,rfl,rfl,trivial⟩))
theorem sn_of8 {l:List OpD}{Stop:Goroutine→World→Prop}{w:World}(hft:Fit (sfO l) w)(hko:KO l w){vw vy vk vl:Value}{a:Act}(hA:Lvs 219 [(49,.tuple #[.agg #[.int .i64 7,.int .i64 0,.int .i64 0,.int .i64 0,.int .i64 0],.bool true]),(0,vw),(1,vy),(5,.bool true),(6,vk),(8,vl)] a)(k:List Item)(cs:List Frame)
  (hn:∀ a' w',Grown w w'→w'.heap[w.heap.size]?=some (.cells #[.int .i64 7,.int .i64 0,.int .i64 0,.int .i64 0,.int .i64 0] 70 (0,0))→Lvs 219 [(0,vw),(1,vy),(5,.bool true),(6,vk),(8,vl),(9,.pointer (some ⟨w.heap.size,0,none⟩)),(10,.bool true)] a'→SL l Stop a' (k) cs w') :
  SL l Stop a (.inRegion (snOps 8) [3,4,5,6,7,8] :: k) cs w:=by
 refine wm (v:=.tuple #[.agg #[.int .i64 7,.int .i64 0,.int .i64 0,.int .i64 0,.int .i64 0],.bool true]) hA rfl rfl rfl (hA.get rfl) rfl rfl (fun a hA=>?_)
 refine lw_val (v:=.agg #[.int .i64 7,.int .i64 0,.int .i64 0,.int .i64 0,.int .i64 0]) hA rfl (wanted_none rfl) (by decide) (by kernel_rfl) rfl (by decide) (fun d=>run_extract rfl (hA.get rfl) rfl) (fun a hA=>?_)
 refine lw_val (v:=.bool true) hA rfl (wanted_none rfl) (by decide) (by kernel_rfl) rfl (by decide) (fun d=>run_extract rfl (hA.get rfl) rfl) (fun a hA=>?_)
 obtain ⟨o',ho,hop,hd,hg⟩:∃ o',(snOps 8)[6]?=some o'∧o'.op=.alloc 70∧o'.dst=some 9∧o'.guard=none:=⟨_,rfl,rfl,rfl,rfl⟩
 refine lw_made (ob:=.cells #[.int .i64 0,.int .i64 0,.int .i64 0,.int .i64 0,.int .i64 0] 70 (0,0)) (v:=.pointer (some ⟨w.heap.size,0,none⟩)) hA ho hg (by decide) hd (by decide) (fun d=>by unfold execOp;simp only [hop];go_simp;try rfl) (fun d=>by unfold execOp;simp only [hop];simp [go_sem]) trivial (fun a hA=>?_)
 clear ho hop hd hg
 have hG1:=grown_alloc (w:=w) trivial (ob:=.cells #[.int .i64 0,.int .i64 0,.int .i64 0,.int .i64 0,.int .i64 0] 70 (0,0)) trivial
 have hX1:=heap_alloc_new w (.cells #[.int .i64 0,.int .i64 0,.int .i64 0,.int .i64 0,.int .i64 0] 70 (0,0))
 have hs1:(w.alloc (.cells #[.int .i64 0,.int .i64 0,.int .i64 0,.int .i64 0,.int .i64 0] 70 (0,0))).heap.size=w.heap.size+1:=by simp
 generalize w.alloc (.cells #[.int .i64 0,.int .i64 0,.int .i64 0,.int .i64 0,.int .i64 0] 70 (0,0))=w1 at *
 have hft1:Fit (sfO l) w1:=⟨fun j hj=>by
  obtain ⟨c,t,hc⟩:=hft.soft j hj
  exact ⟨c,t,by rw [hG1.old j (Array.getElem?_eq_some_iff.1 hc).1];exact hc⟩,trivial⟩
 have ea:=hA.get (t:=9) rfl
 have eb:=hA.get (t:=50) rfl
 obtain ⟨o',ho,hop,hd,hg⟩:∃ o',(snOps 8)[7]?=some o'∧o'.op=.store 70 (.tmp 9) (.tmp 50)∧o'.dst=none∧o'.guard=none:=⟨_,rfl,rfl,rfl,rfl⟩
 refine lw_storeRow hA ho hg (by decide) hop hd hft1 ea eb hX1 (by rfl) (by kernel_rfl) (by kernel_rfl) (Br.sfO_zero fun o ho=>by have:=Br.KO.lt hko ho;omega) (fun w2 hs2 hk2 hX2=>?_)
 clear ho hop hd hg ea eb
 refine wt (v:=.bool true) hA rfl rfl rfl (hA.get rfl) rfl rfl (fun a hA=>?_)
 refine Br.liv_region_end ?_
 exact hn a w2 ⟨by omega,fun j hj=>by rw [hk2 j (by omega)];exact hG1.old j hj,trivial⟩ hX2 (hA.cut ⟨rfl,rfl,rfl,rfl,rfl,rfl,rfl,trivial⟩)
theorem sn_to9 {l:List OpD}{Stop:Goroutine→World→Prop}{w:World}{vw vy vk vl q9:Value}{a:Act}{R:Code}(hA:Lvs 219 [(0,vw),(1,vy),(5,.bool true),(6,vk),(8,vl),(9,q9),(10,.bool true)] a)(k:List Item)(cs:List Frame)
  (hn:∀ a',Lvs 219 [(0,vw),(1,vy),(5,.bool true),(6,vk),(8,vl),(9,q9),(10,.bool true)] a'→∀ d,Stop (G (Frame.enter Tryd.prog 23 #[vl,.int .i64 0,.agg #[.int .i64 3,.int .i64 0,.int .i64 0]] .normal) ((base 8).at a' (.inRegion (snOps 9) [2,3,4,5,6,7,8] :: .code R::k)::cs)) (w.at d)) :
  SL l Stop a (.code (.seq (rs 9) R)::k) cs w:=by
 refine Br.liv_seq ?_
 refine lg_region (ops:=snOps 9) (n:=9) (il:=[0,1,2,3,4,5,6,7,8]) (by kernel_rfl) ?_
 refine wm (v:=vl) hA rfl rfl rfl (hA.get rfl) rfl rfl (fun a hA=>?_)
 refine wop (v:=.agg #[.int .i64 3,.int .i64 0,.int .i64 0]) (op:=.build 38 #[(0,.const (.int .i64 3))]) hA rfl rfl rfl rfl rfl rfl (fun o hop d=>by unfold execOp;simp only [hop];go_simp;try rfl) (fun a hA=>?_)
 have e53:=hA.get (t:=53) rfl
 have e54:=hA.get (t:=54) rfl
 exact lv_enter rfl rfl (by decide) rfl Tryd.func23 rfl rfl (by simp only [List.map_toArray,List.map_cons,List.map_nil,e53,e54];rfl) (hn a (hA.cut ⟨rfl,rfl,rfl,rfl,rfl,rfl,rfl,trivial⟩))
theorem sn_of9 {l:List OpD}{Stop:Goroutine→World→Prop}{w:World}(hft:Fit (sfO l) w)(hko:KO l w){vw vy vk vl q9:Value}{a:Act}(hA:Lvs 219 [(55,.tuple #[.agg #[.int .i64 3,.int .i64 0,.int .i64 0,.int .i64 0,.int .i64 0],.bool true]),(0,vw),(1,vy),(5,.bool true),(6,vk),(8,vl),(9,q9),(10,.bool true)] a)(k:List Item)(cs:List Frame)
  (hn:∀ a' w',Grown w w'→w'.heap[w.heap.size]?=some (.cells #[.int .i64 3,.int .i64 0,.int .i64 0,.int .i64 0,.int .i64 0] 70 (0,0))→Lvs 219 [(0,vw),(1,vy),(5,.bool true),(6,vk),(8,vl),(9,q9),(10,.bool true),(11,.pointer (some ⟨w.heap.size,0,none⟩)),(12,.bool true)] a'→SL l Stop a' (k) cs w') :
  SL l Stop a (.inRegion (snOps 9) [3,4,5,6,7,8] :: k) cs w:=by
 refine wm (v:=.tuple #[.agg #[.int .i64 3,.int .i64 0,.int .i64 0,.int .i64 0,.int .i64 0],.bool true]) hA rfl rfl rfl (hA.get rfl) rfl rfl (fun a hA=>?_)
 refine lw_val (v:=.agg #[.int .i64 3,.int .i64 0,.int .i64 0,.int .i64 0,.int .i64 0]) hA rfl (wanted_none rfl) (by decide) (by kernel_rfl) rfl (by decide) (fun d=>run_extract rfl (hA.get rfl) rfl) (fun a hA=>?_)
 refine lw_val (v:=.bool true) hA rfl (wanted_none rfl) (by decide) (by kernel_rfl) rfl (by decide) (fun d=>run_extract rfl (hA.get rfl) rfl) (fun a hA=>?_)
 obtain ⟨o',ho,hop,hd,hg⟩:∃ o',(snOps 9)[6]?=some o'∧o'.op=.alloc 70∧o'.dst=some 11∧o'.guard=none:=⟨_,rfl,rfl,rfl,rfl⟩
 refine lw_made (ob:=.cells #[.int .i64 0,.int .i64 0,.int .i64 0,.int .i64 0,.int .i64 0] 70 (0,0)) (v:=.pointer (some ⟨w.heap.size,0,none⟩)) hA ho hg (by decide) hd (by decide) (fun d=>by unfold execOp;simp only [hop];go_simp;try rfl) (fun d=>by unfold execOp;simp only [hop];simp [go_sem]) trivial (fun a hA=>?_)
 clear ho hop hd hg
 have hG1:=grown_alloc (w:=w) trivial (ob:=.cells #[.int .i64 0,.int .i64 0,.int .i64 0,.int .i64 0,.int .i64 0] 70 (0,0)) trivial
 have hX1:=heap_alloc_new w (.cells #[.int .i64 0,.int .i64 0,.int .i64 0,.int .i64 0,.int .i64 0] 70 (0,0))
 have hs1:(w.alloc (.cells #[.int .i64 0,.int .i64 0,.int .i64 0,.int .i64 0,.int .i64 0] 70 (0,0))).heap.size=w.heap.size+1:=by simp
 generalize w.alloc (.cells #[.int .i64 0,.int .i64 0,.int .i64 0,.int .i64 0,.int .i64 0] 70 (0,0))=w1 at *
 have hft1:Fit (sfO l) w1:=⟨fun j hj=>by
  obtain ⟨c,t,hc⟩:=hft.soft j hj
  exact ⟨c,t,by rw [hG1.old j (Array.getElem?_eq_some_iff.1 hc).1];exact hc⟩,trivial⟩
 have ea:=hA.get (t:=11) rfl
 have eb:=hA.get (t:=56) rfl
 obtain ⟨o',ho,hop,hd,hg⟩:∃ o',(snOps 9)[7]?=some o'∧o'.op=.store 70 (.tmp 11) (.tmp 56)∧o'.dst=none∧o'.guard=none:=⟨_,rfl,rfl,rfl,rfl⟩
 refine lw_storeRow hA ho hg (by decide) hop hd hft1 ea eb hX1 (by rfl) (by kernel_rfl) (by kernel_rfl) (Br.sfO_zero fun o ho=>by have:=Br.KO.lt hko ho;omega) (fun w2 hs2 hk2 hX2=>?_)
 clear ho hop hd hg ea eb
 refine wt (v:=.bool true) hA rfl rfl rfl (hA.get rfl) rfl rfl (fun a hA=>?_)
 refine Br.liv_region_end ?_
 exact hn a w2 ⟨by omega,fun j hj=>by rw [hk2 j (by omega)];exact hG1.old j hj,trivial⟩ hX2 (hA.cut ⟨rfl,rfl,rfl,rfl,rfl,rfl,rfl,rfl,rfl,trivial⟩)
theorem sn_to10 {l:List OpD}{Stop:Goroutine→World→Prop}{w:World}{vw vy vk vl q9 q11:Value}{a:Act}{R:Code}(hA:Lvs 219 [(0,vw),(1,vy),(5,.bool true),(6,vk),(8,vl),(9,q9),(10,.bool true),(11,q11),(12,.bool true)] a)(k:List Item)(cs:List Frame)
  (hn:∀ a',Lvs 219 [(0,vw),(1,vy),(5,.bool true),(6,vk),(8,vl),(9,q9),(10,.bool true),(11,q11),(12,.bool true)] a'→∀ d,Stop (G (Frame.enter Tryd.prog 23 #[vl,.int .i64 0,.agg #[.int .i64 1,.int .i64 0,.int .i64 0]] .normal) ((base 8).at a' (.inRegion (snOps 10) [2,3,4,5,6,7,8] :: .code R::k)::cs)) (w.at d)) :
  SL l Stop a (.code (.seq (rs 10) R)::k) cs w:=by
 refine Br.liv_seq ?_
 refine lg_region (ops:=snOps 10) (n:=10) (il:=[0,1,2,3,4,5,6,7,8]) (by kernel_rfl) ?_
 refine wm (v:=vl) hA rfl rfl rfl (hA.get rfl) rfl rfl (fun a hA=>?_)
 refine wop (v:=.agg #[.int .i64 1,.int .i64 0,.int .i64 0]) (op:=.build 38 #[(0,.const (.int .i64 1))]) hA rfl rfl rfl rfl rfl rfl (fun o hop d=>by unfold execOp;simp only [hop];go_simp;try rfl) (fun a hA=>?_)
 have e59:=hA.get (t:=59) rfl
 have e60:=hA.get (t:=60) rfl
 exact lv_enter rfl rfl (by decide) rfl Tryd.func23 rfl rfl (by simp only [List.map_toArray,List.map_cons,List.map_nil,e59,e60];rfl) (hn a (hA.cut ⟨rfl,rfl,rfl,rfl,rfl,rfl,rfl,rfl,rfl,trivial⟩))
theorem sn_of10 {l:List OpD}{Stop:Goroutine→World→Prop}{w:World}(hft:Fit (sfO l) w)(hko:KO l w){vw vy vk vl q9 q11:Value}{a:Act}(hA:Lvs 219 [(61,.tuple #[.agg #[.int .i64 1,.int .i64 0,.int .i64 0,.int .i64 0,.int .i64 1],.bool true]),(0,vw),(1,vy),(5,.bool true),(6,vk),(8,vl),(9,q9),(10,.bool true),(11,q11),(12,.bool true)] a)(k:List Item)(cs:List Frame)
  (hn:∀ a' w',Grown w w'→w'.heap[w.heap.size]?=some (.cells #[.int .i64 1,.int .i64 0,.int .i64 0,.int .i64 0,.int .i64 1] 70 (0,0))→Lvs 219 [(0,vw),(1,vy),(5,.bool true),(6,vk),(8,vl),(9,q9),(10,.bool true),(11,q11),(12,.bool true),(13,.pointer (some ⟨w.heap.size,0,none⟩)),(14,.bool true)] a'→SL l Stop a' (k) cs w') :
  SL l Stop a (.inRegion (snOps 10) [3,4,5,6,7,8] :: k) cs w:=by
 refine wm (v:=.tuple #[.agg #[.int .i64 1,.int .i64 0,.int .i64 0,.int .i64 0,.int .i64 1],.bool true]) hA rfl rfl rfl (hA.get rfl) rfl rfl (fun a hA=>?_)
 refine lw_val (v:=.agg #[.int .i64 1,.int .i64 0,.int .i64 0,.int .i64 0,.int .i64 1]) hA rfl (wanted_none rfl) (by decide) (by kernel_rfl) rfl (by decide) (fun d=>run_extract rfl (hA.get rfl) rfl) (fun a hA=>?_)
 refine lw_val (v:=.bool true) hA rfl (wanted_none rfl) (by decide) (by kernel_rfl) rfl (by decide) (fun d=>run_extract rfl (hA.get rfl) rfl) (fun a hA=>?_)
 obtain ⟨o',ho,hop,hd,hg⟩:∃ o',(snOps 10)[6]?=some o'∧o'.op=.alloc 70∧o'.dst=some 13∧o'.guard=none:=⟨_,rfl,rfl,rfl,rfl⟩
 refine lw_made (ob:=.cells #[.int .i64 0,.int .i64 0,.int .i64 0,.int .i64 0,.int .i64 0] 70 (0,0)) (v:=.pointer (some ⟨w.heap.size,0,none⟩)) hA ho hg (by decide) hd (by decide) (fun d=>by unfold execOp;simp only [hop];go_simp;try rfl) (fun d=>by unfold execOp;simp only [hop];simp [go_sem]) trivial (fun a hA=>?_)
 clear ho hop hd hg
 have hG1:=grown_alloc (w:=w) trivial (ob:=.cells #[.int .i64 0,.int .i64 0,.int .i64 0,.int .i64 0,.int .i64 0] 70 (0,0)) trivial
 have hX1:=heap_alloc_new w (.cells #[.int .i64 0,.int .i64 0,.int .i64 0,.int .i64 0,.int .i64 0] 70 (0,0))
 have hs1:(w.alloc (.cells #[.int .i64 0,.int .i64 0,.int .i64 0,.int .i64 0,.int .i64 0] 70 (0,0))).heap.size=w.heap.size+1:=by simp
 generalize w.alloc (.cells #[.int .i64 0,.int .i64 0,.int .i64 0,.int .i64 0,.int .i64 0] 70 (0,0))=w1 at *
 have hft1:Fit (sfO l) w1:=⟨fun j hj=>by
  obtain ⟨c,t,hc⟩:=hft.soft j hj
  exact ⟨c,t,by rw [hG1.old j (Array.getElem?_eq_some_iff.1 hc).1];exact hc⟩,trivial⟩
 have ea:=hA.get (t:=13) rfl
 have eb:=hA.get (t:=62) rfl
 obtain ⟨o',ho,hop,hd,hg⟩:∃ o',(snOps 10)[7]?=some o'∧o'.op=.store 70 (.tmp 13) (.tmp 62)∧o'.dst=none∧o'.guard=none:=⟨_,rfl,rfl,rfl,rfl⟩
 refine lw_storeRow hA ho hg (by decide) hop hd hft1 ea eb hX1 (by rfl) (by kernel_rfl) (by kernel_rfl) (Br.sfO_zero fun o ho=>by have:=Br.KO.lt hko ho;omega) (fun w2 hs2 hk2 hX2=>?_)
 clear ho hop hd hg ea eb
 refine wt (v:=.bool true) hA rfl rfl rfl (hA.get rfl) rfl rfl (fun a hA=>?_)
 refine Br.liv_region_end ?_
 exact hn a w2 ⟨by omega,fun j hj=>by rw [hk2 j (by omega)];exact hG1.old j hj,trivial⟩ hX2 (hA.cut ⟨rfl,rfl,rfl,rfl,rfl,rfl,rfl,rfl,rfl,rfl,rfl,trivial⟩)
theorem sn_mid {l:List OpD}{Stop:Goroutine→World→Prop}{w:World}(hft:Fit (sfO l) w)(hko:KO l w){vw vy vk vl:Value}{b9 b11 b13:Nat}(h9:w.heap[b9]?=some (.cells #[.int .i64 7,.int .i64 0,.int .i64 0,.int .i64 0,.int .i64 0] 70 (0,0)))(h11:w.heap[b11]?=some (.cells #[.int .i64 3,.int .i64 0,.int .i64 0,.int .i64 0,.int .i64 0] 70 (0,0)))(h13:w.heap[b13]?=some (.cells #[.int .i64 1,.int .i64 0,.int .i64 0,.int .i64 0,.int .i64 1] 70 (0,0))){a:Act}(hA:Lvs 219 [(0,vw),(1,vy),(5,.bool true),(6,vk),(8,vl),(9,.pointer (some ⟨b9,0,none⟩)),(10,.bool true),(11,.pointer (some ⟨b11,0,none⟩)),(12,.bool true),(13,.pointer (some ⟨b13,0,none⟩)),(14,.bool true)] a)(k:List Item)(cs:List Frame)
  (hn:∀ a' w',Grown w w'→w'.heap[w.heap.size]?=some (.cells #[.bool false,.bool false] 77 (0,0))→Lvs 219 [(0,vw),(1,vy),(5,.bool true),(6,vk),(8,vl),(15,.int .i64 0),(16,.int .i64 0),(17,.pointer (some ⟨w.heap.size,0,none⟩)),(18,.int .i64 0)] a'→SL l Stop a' (.code snLoop::.inLoop snLoop::.inBlock 0::.code snEnd::k) cs w') :
  SL l Stop a (.code snMid::k) cs w:=by
 have c9:∀ d,(w.at d).cell? ⟨b9,3,none⟩=some (.int .i64 0):=fun d=>by show w.cell? _=_;simp [World.cell?,h9]
 have c11:∀ d,(w.at d).cell? ⟨b11,3,none⟩=some (.int .i64 0):=fun d=>by show w.cell? _=_;simp [World.cell?,h11]
 have c13:∀ d,(w.at d).cell? ⟨b13,3,none⟩=some (.int .i64 0):=fun d=>by show w.cell? _=_;simp [World.cell?,h13]
 have v13:∀ d,(w.at d).cell? ⟨b13,4,none⟩=some (.int .i64 1):=fun d=>by show w.cell? _=_;simp [World.cell?,h13]
 unfold snMid
 refine Br.liv_seq ?_
 refine lg_region (ops:=snOps 11) (n:=11) (il:=[0,1,2,3,4,5,6,7,8,9,10,11,12,13,14,15,16,17,18,19,20,21,22,23,24,25,26,27]) (by kernel_rfl) ?_
 refine wm (v:=.bool true) hA rfl rfl rfl (hA.get rfl) rfl rfl (fun a hA=>?_)
 refine wm (v:=.bool true) hA rfl rfl rfl (hA.get rfl) rfl rfl (fun a hA=>?_)
 refine wmg (v:=.bool true) hA rfl rfl rfl rfl rfl rfl rfl (hA.get rfl) rfl rfl (fun a hA=>?_)
 refine wop (v:=.bool true) (op:=.pick (.tmp 65) (.tmp 66) (.const (.bool false))) hA rfl rfl rfl rfl rfl rfl (fun o hop d=>by unfold execOp;simp only [hop,hA.get (t:=65) rfl,hA.get (t:=66) rfl];go_simp) (fun a hA=>?_)
 refine wm (v:=.bool true) hA rfl rfl rfl (hA.get rfl) rfl rfl (fun a hA=>?_)
 refine wmg (v:=.bool true) hA rfl rfl rfl rfl rfl rfl rfl (hA.get rfl) rfl rfl (fun a hA=>?_)
 refine wop (v:=.bool true) (op:=.pick (.tmp 68) (.tmp 69) (.const (.bool false))) hA rfl rfl rfl rfl rfl rfl (fun o hop d=>by unfold execOp;simp only [hop,hA.get (t:=68) rfl,hA.get (t:=69) rfl];go_simp) (fun a hA=>?_)
 refine wm (v:=.bool true) hA rfl rfl rfl (hA.get rfl) rfl rfl (fun a hA=>?_)
 refine wopg (v:=.pointer (some ⟨b9,3,none⟩)) (op:=.fieldAddr 70 (.tmp 9) 1) hA rfl rfl rfl rfl rfl rfl rfl rfl rfl rfl (fun o hop d=>by unfold execOp;simp only [hop,hA.get (t:=9) rfl];go_simp) (fun a hA=>?_)
 refine wopg (v:=.int .i64 0) (op:=.load 26 (.tmp 72)) hA rfl rfl rfl rfl rfl rfl rfl rfl rfl rfl (fun o hop d=>by have z0:=c9 d;unfold execOp;simp only [hop,hA.get (t:=72) rfl];go_simp) (fun a hA=>?_)
 refine wopg (v:=.bool true) (op:=.binOp .eql 26 (.tmp 73) (.const (.int .i64 0)) 26) hA rfl rfl rfl rfl rfl rfl rfl (by kernel_rfl) rfl rfl (fun o hop d=>by unfold execOp;simp only [hop,hA.get (t:=73) rfl];go_simp) (fun a hA=>?_)
 refine wop (v:=.bool true) (op:=.pick (.tmp 71) (.tmp 74) (.const (.bool false))) hA rfl rfl rfl rfl rfl rfl (fun o hop d=>by unfold execOp;simp only [hop,hA.get (t:=71) rfl,hA.get (t:=74) rfl];go_simp) (fun a (hA:Lvs 219 [(75,.bool true),(74,.bool true),(73,.int .i64 0),(72,.pointer (some ⟨b9,3,none⟩)),(71,.bool true),(70,.bool true),(69,.bool true),(68,.bool true),(67,.bool true),(66,.bool true),(65,.bool true),(64,.bool true),(0,vw),(1,vy),(5,.bool true),(6,vk),(8,vl),(9,.pointer (some ⟨b9,0,none⟩)),(10,.bool true),(11,.pointer (some ⟨b11,0,none⟩)),(12,.bool true),(13,.pointer (some ⟨b13,0,none⟩)),(14,.bool true)] a)=>?_)
 replace hA:Lvs 219 [(75,.bool true),(0,vw),(1,vy),(5,.bool true),(6,vk),(8,vl),(9,.pointer (some ⟨b9,0,none⟩)),(10,.bool true),(11,.pointer (some ⟨b11,0,none⟩)),(12,.bool true),(13,.pointer (some ⟨b13,0,none⟩)),(14,.bool true)] a:=hA.cut ⟨rfl,rfl,rfl,rfl,rfl,rfl,rfl,rfl,rfl,rfl,rfl,rfl,trivial⟩
 refine wm (v:=.bool true) hA rfl rfl rfl (hA.get rfl) rfl rfl (fun a hA=>?_)
 refine wopg (v:=.pointer (some ⟨b11,3,none⟩)) (op:=.fieldAddr 70 (.tmp 11) 1) hA rfl rfl rfl rfl rfl rfl rfl rfl rfl rfl (fun o hop d=>by unfold execOp;simp only [hop,hA.get (t:=11) rfl];go_simp) (fun a hA=>?_)
 refine wopg (v:=.int .i64 0) (op:=.load 26 (.tmp 77)) hA rfl rfl rfl rfl rfl rfl rfl rfl rfl rfl (fun o hop d=>by have z0:=c11 d;unfold execOp;simp only [hop,hA.get (t:=77) rfl];go_simp) (fun a hA=>?_)
 refine wopg (v:=.bool true) (op:=.binOp .eql 26 (.tmp 78) (.const (.int .i64 0)) 26) hA rfl rfl rfl rfl rfl rfl rfl (by kernel_rfl) rfl rfl (fun o hop d=>by unfold execOp;simp only [hop,hA.get (t:=78) rfl];go_simp) (fun a hA=>?_)
 refine wop (v:=.bool true) (op:=.pick (.tmp 76) (.tmp 79) (.const (.bool false))) hA rfl rfl rfl rfl rfl rfl (fun o hop d=>by unfold execOp;simp only [hop,hA.get (t:=76) rfl,hA.get (t:=79) rfl];go_simp) (fun a hA=>?_)
 refine wm (v:=.bool true) hA rfl rfl rfl (hA.get rfl) rfl rfl (fun a hA=>?_)
 refine wopg (v:=.pointer (some ⟨b13,3,none⟩)) (op:=.fieldAddr 70 (.tmp 13) 1) hA rfl rfl rfl rfl rfl rfl rfl rfl rfl rfl (fun o hop d=>by unfold execOp;simp only [hop,hA.get (t:=13) rfl];go_simp) (fun a hA=>?_)
 refine wopg (v:=.int .i64 0) (op:=.load 26 (.tmp 82)) hA rfl rfl rfl rfl rfl rfl rfl rfl rfl rfl (fun o hop d=>by have z0:=c13 d;unfold execOp;simp only [hop,hA.get (t:=82) rfl];go_simp) (fun a hA=>?_)
 refine wopg (v:=.bool true) (op:=.binOp .eql 26 (.tmp 83) (.const (.int .i64 0)) 26) hA rfl rfl rfl rfl rfl rfl rfl (by kernel_rfl) rfl rfl (fun o hop d=>by unfold execOp;simp only [hop,hA.get (t:=83) rfl];go_simp) (fun a hA=>?_)
 refine wop (v:=.bool true) (op:=.pick (.tmp 81) (.tmp 84) (.const (.bool false))) hA rfl rfl rfl rfl rfl rfl (fun o hop d=>by unfold execOp;simp only [hop,hA.get (t:=81) rfl,hA.get (t:=84) rfl];go_simp) (fun a hA=>?_)
 refine wm (v:=.bool true) hA rfl rfl rfl (hA.get rfl) rfl rfl (fun a hA=>?_)
 replace hA:Lvs 219 [(86,.bool true),(0,vw),(1,vy),(5,.bool true),(6,vk),(8,vl),(9,.pointer (some ⟨b9,0,none⟩)),(10,.bool true),(11,.pointer (some ⟨b11,0,none⟩)),(12,.bool true),(13,.pointer (some ⟨b13,0,none⟩)),(14,.bool true)] a:=hA.cut ⟨rfl,rfl,rfl,rfl,rfl,rfl,rfl,rfl,rfl,rfl,rfl,rfl,trivial⟩
 refine wopg (v:=.pointer (some ⟨b13,4,none⟩)) (op:=.fieldAddr 70 (.tmp 13) 2) hA rfl rfl rfl rfl rfl rfl rfl rfl rfl rfl (fun o hop d=>by unfold execOp;simp only [hop,hA.get (t:=13) rfl];go_simp) (fun a (hA:Lvs 219 [(87,.pointer (some ⟨b13,4,none⟩)),(86,.bool true),(0,vw),(1,vy),(5,.bool true),(6,vk),(8,vl),(9,.pointer (some ⟨b9,0,none⟩)),(10,.bool true),(11,.pointer (some ⟨b11,0,none⟩)),(12,.bool true),(13,.pointer (some ⟨b13,0,none⟩)),(14,.bool true)] a)=>?_)
 refine wopg (v:=.int .i64 1) (op:=.load 3 (.tmp 87)) hA rfl rfl rfl rfl rfl rfl rfl rfl rfl rfl (fun o hop d=>by have z0:=v13 d;unfold execOp;simp only [hop,hA.get (t:=87) rfl];go_simp) (fun a hA=>?_)
 refine wopg (v:=.bool true) (op:=.binOp .eql 3 (.tmp 88) (.const (.int .i64 1)) 3) hA rfl rfl rfl rfl rfl rfl rfl (by kernel_rfl) rfl rfl (fun o hop d=>by unfold execOp;simp only [hop,hA.get (t:=88) rfl];go_simp) (fun a hA=>?_)
 refine wop (v:=.bool true) (op:=.pick (.tmp 86) (.tmp 89) (.const (.bool false))) hA rfl rfl rfl rfl rfl rfl (fun o hop d=>by unfold execOp;simp only [hop,hA.get (t:=86) rfl,hA.get (t:=89) rfl];go_simp) (fun a hA=>?_)
 refine wt (v:=.bool true) hA rfl rfl rfl (hA.get rfl) rfl rfl (fun a hA=>?_)
 refine Br.liv_region_end ?_
 replace hA:Lvs 219 [(0,vw),(1,vy),(5,.bool true),(6,vk),(8,vl)] a:=hA.cut ⟨rfl,rfl,rfl,rfl,rfl,trivial⟩
 refine Br.liv_seq ?_
 refine lg_region (ops:=snOps 12) (n:=12) (il:=[0]) (by kernel_rfl) ?_
 refine wt (v:=.int .i64 0) hA rfl rfl rfl rfl rfl rfl (fun a hA=>?_)
 refine Br.liv_region_end ?_
 refine Br.liv_seq ?_
 refine lg_region (ops:=snOps 13) (n:=13) (il:=[0]) (by kernel_rfl) ?_
 refine wt (v:=.int .i64 0) hA rfl rfl rfl rfl rfl rfl (fun a hA=>?_)
 refine Br.liv_region_end ?_
 replace hA:Lvs 219 [(0,vw),(1,vy),(5,.bool true),(6,vk),(8,vl),(15,.int .i64 0),(16,.int .i64 0)] a:=hA.cut ⟨rfl,rfl,rfl,rfl,rfl,rfl,rfl,trivial⟩
 refine Br.liv_seq ?_
 refine lg_region (ops:=snOps 14) (n:=14) (il:=[0,1,2]) (by kernel_rfl) ?_
 refine wop (v:=.agg #[.bool false,.bool false]) (op:=.build 77 #[]) hA rfl rfl rfl rfl rfl rfl (fun o hop d=>by unfold execOp;simp only [hop];go_simp;try rfl) (fun a hA=>?_)
 obtain ⟨o',ho,hop,hd,hg⟩:∃ o',(snOps 14)[1]?=some o'∧o'.op=.alloc 77∧o'.dst=some 17∧o'.guard=none:=⟨_,rfl,rfl,rfl,rfl⟩
 refine lw_made (ob:=.cells #[.bool false,.bool false] 77 (0,0)) (v:=.pointer (some ⟨w.heap.size,0,none⟩)) hA ho hg (by decide) hd (by decide) (fun d=>by unfold execOp;simp only [hop];go_simp;try rfl) (fun d=>by unfold execOp;simp only [hop];simp [go_sem]) trivial (fun a hA=>?_)
 clear ho hop hd hg
 have hG1:=grown_alloc (w:=w) trivial (ob:=.cells #[.bool false,.bool false] 77 (0,0)) trivial
 have hX1:=heap_alloc_new w (.cells #[.bool false,.bool false] 77 (0,0))
 have hs1:(w.alloc (.cells #[.bool false,.bool false] 77 (0,0))).heap.size=w.heap.size+1:=by simp
 generalize w.alloc (.cells #[.bool false,.bool false] 77 (0,0))=w1 at *
 have hft1:Fit (sfO l) w1:=⟨fun j hj=>by
  obtain ⟨c,t,hc⟩:=hft.soft j hj
  exact ⟨c,t,by rw [hG1.old j (Array.getElem?_eq_some_iff.1 hc).1];exact hc⟩,trivial⟩
 have ea:=hA.get (t:=17) rfl
 have eb:=hA.get (t:=91) rfl
 obtain ⟨o',ho,hop,hd,hg⟩:∃ o',(snOps 14)[2]?=some o'∧o'.op=.store 77 (.tmp 17) (.tmp 91)∧o'.dst=none∧o'.guard=none:=⟨_,rfl,rfl,rfl,rfl⟩
 refine lw_storeRow hA ho hg (by decide) hop hd hft1 ea eb hX1 (by rfl) (by kernel_rfl) (by kernel_rfl) (Br.sfO_zero fun o ho=>by have:=Br.KO.lt hko ho;omega) (fun w2 hs2 hk2 hX2=>?_)
 clear ho hop hd hg ea eb
 refine Br.liv_region_end ?_
 replace hA:Lvs 219 [(0,vw),(1,vy),(5,.bool true),(6,vk),(8,vl),(15,.int .i64 0),(16,.int .i64 0),(17,.pointer (some ⟨w.heap.size,0,none⟩))] a:=hA.cut ⟨rfl,rfl,rfl,rfl,rfl,rfl,rfl,rfl,trivial⟩
 refine Br.liv_seq ?_
 refine Br.liv_seq ?_
 refine lg_region (ops:=snOps 15) (n:=15) (il:=[0]) (by kernel_rfl) ?_
 refine wt (v:=.int .i64 0) hA rfl rfl rfl rfl rfl rfl (fun a hA=>?_)
 refine Br.liv_region_end ?_
 refine Br.liv_block ?_
 refine Br.liv_loop ?_
 exact hn a w2 ⟨by omega,fun j hj=>by rw [hk2 j (by omega)];exact hG1.old j hj,trivial⟩ hX2 (hA.cut ⟨rfl,rfl,rfl,rfl,rfl,rfl,rfl,rfl,rfl,trivial⟩)
end Go.Proofs.YtcgabodkegcpgaaDoor
