/- The kernel's Call at Map, Pipe, Write, Read, Load, Store, at whatever numbers; and what works does: it answers true. -/
import Derived.Test.YtcgabodkegcpgaaDoorNew1
import Derived.Test.YtcgabodkegcpgaaDoorDna
import Derived.Test.YtcgabodkegcpgaaDoorInv3
namespace Go.Proofs.YtcgabodkegcpgaaDoor
open Go.RowKit
set_option linter.unusedVariables false
set_option maxHeartbeats 4000000
def wK1:Ker:=(kMap (kNew 4 2 1) 0 1 2).K
def wK2:Ker:=(kStore wK1 0 1 3 9).K
theorem wE1:kCall (kNew 4 2 1) 0 2 1 2 0=⟨wK1,0,0⟩:=rfl
theorem wE2:kCall wK1 0 19 1 3 9=⟨wK2,0,0⟩:=rfl
theorem wE3:kCall wK2 0 18 1 3 0=⟨wK2,9,0⟩:=rfl
theorem wE4:kCall wK2 0 2 0 2 0=⟨wK2,0,5⟩:=rfl
theorem wG0:Good (kNew 4 2 1):=good_new 4 2 1 (by omega)
theorem wG1:Good wK1:=good_map wG0 (by omega) (by show 2<4;omega)
theorem wG2:Good wK2:=good_store wG1 0 1 3 9
theorem works_any (w:World)(T:Tab w):Calls Tryd.prog 9 #[] w fun e w'=>e=.returned (.bool true)∧Below w.heap.size w w':=by
 have HT:Hid (Tab w):=T
 clear T
 go_enter Tryd.func9,Tryd.ntmps9
 go_wp2_with fail
 refine (new_any 4 2 1 (by omega) (by omega) (by omega) (by omega) (by omega) _).mono ?_
 rintro e w1 ⟨bk,bf,bs,bd,rfl,R1,b1,g1,g2,g3,g4⟩
 have p0:=HT.out.lt
 have HT1:Hid (Tab w1):=HT.out.same (b1.block 0 p0)
 have HR1:Hid _:=R1
 have Hb1:Hid _:=b1
 have Hg:Hid (w.heap.size≤bf∧w.heap.size≤bs∧w.heap.size≤bd∧0<w.heap.size):=⟨g2,g3,g4,p0⟩
 clear R1 b1 g1 g2 g3 g4 p0
 go_wp2_with fail
 refine (call_six HR1.out HT1.out wG0 0 2 1 2 0 (by unfold Six;omega) wE1).mono ?_
 rintro e w2 ⟨rfl,R2,k2⟩
 have HT2:Hid (Tab w2):=HT1.out.keeps k2 (by have:=Hg.out;omega) (by have:=Hg.out;omega) (by have:=Hg.out;omega)
 have HR2:Hid _:=R2
 have Hk2:Hid _:=k2
 clear R2 k2
 go_wp2_with fail
 refine (call_six HR2.out HT2.out wG1 0 19 1 3 9 (by unfold Six;omega) wE2).mono ?_
 rintro e w3 ⟨rfl,R3,k3⟩
 have HT3:Hid (Tab w3):=HT2.out.keeps k3 (by have:=Hg.out;omega) (by have:=Hg.out;omega) (by have:=Hg.out;omega)
 have HR3:Hid _:=R3
 have Hk3:Hid _:=k3
 clear R3 k3
 go_wp2_with fail
 refine (call_six HR3.out HT3.out wG2 0 18 1 3 0 (by unfold Six;omega) wE3).mono ?_
 rintro e w4 ⟨rfl,R4,k4⟩
 have HT4:Hid (Tab w4):=HT3.out.keeps k4 (by have:=Hg.out;omega) (by have:=Hg.out;omega) (by have:=Hg.out;omega)
 have HR4:Hid _:=R4
 have Hk4:Hid _:=k4
 clear R4 k4
 go_wp2_with fail
 refine (call_six HR4.out HT4.out wG2 0 2 0 2 0 (by unfold Six;omega) wE4).mono ?_
 rintro e w5 ⟨rfl,R5,k5⟩
 have HT5:Hid (Tab w5):=HT4.out.keeps k5 (by have:=Hg.out;omega) (by have:=Hg.out;omega) (by have:=Hg.out;omega)
 have HR5:Hid _:=R5
 have Hk5:Hid _:=k5
 clear R5 k5
 go_wp2
 go_ret
 have g:=Hg.out
 have z1:=Hb1.out.size
 exact ⟨rfl,Hb1.out.trans ((((Hk2.out.trans Hk3.out).trans Hk4.out).trans Hk5.out).below z1 g.1 g.2.1 g.2.2.1)⟩
end Go.Proofs.YtcgabodkegcpgaaDoor
namespace Go.Proofs.YtcgabodkegcpgaaDoor
open Go.Conc Go.RowKit
open Br (X OpD KO SO SP sfO Lk Fit Must DL Liv Clear)
set_option linter.unusedVariables false
set_option linter.unusedSimpArgs false
set_option maxHeartbeats 4000000
theorem sf_nil (i:Nat):sfO [] i=0:=Br.sfO_zero fun o ho=>by cases ho
theorem fit_nil (w:World):Fit (sfO []) w:=⟨fun i hi=>absurd (sf_nil i) hi,trivial⟩
theorem ko_nil (w:World):KO [] w:=fun o ho=>by cases ho
theorem must_works {w:World}(T:Tab w)(fr:Frame)(cs:List Frame)(d:Nat) :
  Must Tryd.prog true (DL true (sfO [])) (fun g w'=>∃ x,g=G (fr.finish x) cs∧Grown w w'∧x=.bool true) (G (Frame.enter Tryd.prog 9 #[] .normal) (fr::cs)) (w.at d) :=
 must_below (fit_nil w) (ko_nil w) true (by kernel_rfl) (R:=fun x _=>x=.bool true) (fun v hv=>(works_any v (tab_to hv (T.same (w':=w.at d) rfl))).mono fun e v' he=>by
  obtain ⟨rfl,h⟩:=he
  exact ⟨_,rfl,h,rfl⟩) (fun x v' w' _ _ h=>h) fr cs
theorem must_settings {w:World}{x y z:Int}(hx:-9223372036854775808≤x∧x<9223372036854775808)(hy:-9223372036854775808≤y∧y<9223372036854775808)(hz:-9223372036854775808≤z∧z<9223372036854775808)(fr:Frame)(cs:List Frame)(d:Nat) :
  Must Tryd.prog true (DL true (sfO [])) (fun g w'=>∃ u,g=G (fr.finish u) cs∧Grown w w'∧u=.agg #[.int .i64 ((2+pickN x 31:Nat):Int),.int .i64 ((1+pickN y 6:Nat):Int),.int .i64 (pickN z 5:Nat)]) (G (Frame.enter Tryd.prog 12 #[.agg #[.int .i64 x,.int .i64 y,.int .i64 z]] .normal) (fr::cs)) (w.at d) :=
 must_below (fit_nil w) (ko_nil w) true (by kernel_rfl) (R:=fun u _=>u=.agg #[.int .i64 ((2+pickN x 31:Nat):Int),.int .i64 ((1+pickN y 6:Nat):Int),.int .i64 (pickN z 5:Nat)]) (fun v hv=>(settings_any x y z hx hy hz v).mono fun e v' he=>by
  obtain ⟨rfl,h⟩:=he
  exact ⟨_,rfl,h,rfl⟩) (fun x v' w' _ _ h=>h) fr cs
theorem co_first {kb:Kb}{K:Ker}{w:World}(hR:Rep w kb.bk kb.bf kb.bs kb.bd K)(hT:Tab w)(hI:Inv K)(h0:0≠kb.bf∧0≠kb.bs∧0≠kb.bd)(r:Nat):Co kb [] K (fun _=>none) r (fun _=>none) 1 w :=
 ⟨⟨hR,hT,hI,fit_nil w,ko_nil w,fun o ho=>by cases ho⟩,h0,fun g v h=>(by cases h),fun g v h=>(by cases h),fun g v h=>(by cases h),fun g v h=>(by cases h),fun g v h=>(by cases h),fun g _ _=>rfl,fun s c h=>(by cases h),fun g v h=>(by cases h),fun g v h=>(by cases h),fun g v g' v' h=>(by cases h),fun g v g' v' h=>(by cases h)⟩
theorem must_knew {w:World}(T:Tab w)(nF nS nD:Nat)(h1:2≤nF)(h2:nF≤32)(h3:1≤nS)(h4:nS≤6)(h5:nD≤4)(fr:Frame)(cs:List Frame)(d:Nat) :
  Must Tryd.prog true (DL true (sfO [])) (fun g w'=>∃ kb:Kb,g=G (fr.finish (.tuple #[.pointer (some ⟨kb.bk,0,none⟩),.int .i64 0])) cs∧Grown w w'∧w.heap.size≤kb.bk∧w.heap.size≤kb.bf∧w.heap.size≤kb.bs∧w.heap.size≤kb.bd∧∀ r,Co kb [] (kNew nF nS nD) (fun _=>none) r (fun _=>none) 1 w')
   (G (Frame.enter Tryd.prog 10 #[.agg #[.int .i64 nF,.int .i64 nS,.int .i64 nD]] .normal) (fr::cs)) (w.at d):=by
 refine (Br.must_calls Br.rules (sft:=sfO []) (w0:=w.at d) (by kernel_rfl) (fit_nil _) true (Q:=fun x v'=>∃ v bk bf bs bd,Lk (sfO []) v (w.at d)∧x=.tuple #[.pointer (some ⟨bk,0,none⟩),.int .i64 0]∧Rep v' bk bf bs bd (kNew nF nS nD)∧Below v.heap.size v v'∧w.heap.size≤bk∧w.heap.size≤bf∧w.heap.size≤bs∧w.heap.size≤bd) (fun v hv=>(new_any nF nS nD h1 h2 h3 h4 h5 v).mono fun e v' he=>by
   obtain ⟨bk,bf,bs,bd,rfl,a1,a2,a3,a4,a5,a6⟩:=he
   have sv:v.heap.size=w.heap.size:=hv.size
   rw [sv] at a3 a4 a5 a6
   exact ⟨v,bk,bf,bs,bd,hv,rfl,a1,a2,a3,a4,a5,a6⟩) fr cs).keep.mono (fun _ _ _ h=>h) ?_
 rintro g w' ⟨⟨x,v',rfl,hl',v,bk,bf,bs,bd,hv,rfl,a1,a2,a3,a4,a5,a6⟩,hkp⟩
 have e1:v.heap.size=w.heap.size:=hv.size
 have e2:v'.heap.size=w'.heap.size:=hl'.size
 have hG:Grown w w':=⟨by have:=a2.size;omega,fun k hk=>same_block (w:=w.at d) hkp hv hl' (a2.block k (by omega)),trivial⟩
 have l0:0<w.heap.size:=T.lt
 exact ⟨⟨bk,bf,bs,bd⟩,rfl,hG,a3,a4,a5,a6,fun r=>co_first (kb:=⟨bk,bf,bs,bd⟩) (rep_back hl' (sf_nil _) (sf_nil _) (sf_nil _) a1) (T.same (hG.old 0 l0)) (inv_new nF nS nD h1 h4) ⟨by simp only;omega,by simp only;omega,by simp only;omega⟩ r⟩
section
variable {l:List OpD} {main:Bool} {sft:Nat→Nat} {Stop:Goroutine→World→Prop} {b:Frame} {a:Act} {ops:Array Oper} {i:Nat} {o:Oper} {rest:List Nat} {k:List Item} {cs:List Frame} {w:World} {v:Value}
theorem fin_at (ho:ops[i]?=some o)(x:Value):(b.at a (.inRegion ops (i::rest)::k)).finish x=b.at (a.put o.dst x) (.inRegion ops rest::k):=by rw [Frame.finish_at,ho];rfl
theorem lv_call {f:FuncId}{fn:Func}{c:Code}{args:Array Operand}{ats:Array TypeId}{vs:Array Value}{R:Value→World→Prop}(ho:ops[i]?=some o)(hg:o.guard=none)(hk:b.kind≠.early)(hop:o.op=.call { callee:=.value (.func f),args,argTypes:=ats })
  (hf:Tryd.prog.funcs[f]?=some fn)(hname:(fn.name == "runtime.NumGoroutine")=false)(hb:fn.body=some c)(hargs:args.map a.eval=vs)
  (hm:∀ fr cs d,Must Tryd.prog main (DL true sft) (fun g w'=>∃ x,g=G (fr.finish x) cs∧R x w') (G (Frame.enter Tryd.prog f vs .normal) (fr::cs)) (w.at d))
  (hn:∀ x w',R x w'→Liv Tryd.prog main true sft Stop (G (b.at (a.put o.dst x) (.inRegion ops rest::k)) cs) w'):Liv Tryd.prog main true sft Stop (G (b.at a (.inRegion ops (i::rest)::k)) cs) w:=by
 refine Br.liv_call ho (wanted_none hg) hk hop hf hname hb ?_
 rw [hargs]
 refine Br.liv_of (fun d=>hm _ _ d) ?_
 rintro g' w' ⟨x,rfl,hR⟩
 rw [fin_at ho]
 exact hn x w' hR
theorem lv_enter {f:FuncId}{fn:Func}{c:Code}{args:Array Operand}{ats:Array TypeId}{vs:Array Value}(ho:ops[i]?=some o)(hg:o.guard=none)(hk:b.kind≠.early)(hop:o.op=.call { callee:=.value (.func f),args,argTypes:=ats })
  (hf:Tryd.prog.funcs[f]?=some fn)(hname:(fn.name == "runtime.NumGoroutine")=false)(hb:fn.body=some c)(hargs:args.map a.eval=vs)
  (hn:∀ d,Stop (G (Frame.enter Tryd.prog f vs .normal) (b.at a (.inRegion ops (i::rest)::k)::cs)) (w.at d)):Liv Tryd.prog main true sft Stop (G (b.at a (.inRegion ops (i::rest)::k)) cs) w:=by
 refine Br.liv_call ho (wanted_none hg) hk hop hf hname hb ?_
 rw [hargs]
 exact fun d=>.stop (hn d)
theorem x_liv {Final:Machine→Trace→Prop}{Inb:Nat→Option Seat}{nG:Nat}{g:Goroutine}(h:Liv Tryd.prog true true (sfO l) (X Tryd.prog Final l Inb nG 0) g w):X Tryd.prog Final l Inb nG 0 g w:=Br.x_must (st:=true) (h w.drawn)
end
def regionOf (n:Nat):Code→Option (Array Oper)
 | .region m ops _=>if m=n then some ops else none
 | .seq x y=>(regionOf n x).or (regionOf n y)
 | .cond _ x y=>(regionOf n x).or (regionOf n y)
 | .block _ x=>regionOf n x
 | .loop x=>regionOf n x
 | _=>none
noncomputable def cnOps (n:Nat):Array Oper:=((Tryd.f6.body).bind (regionOf n)).getD #[]
noncomputable abbrev rg (n:Nat):Code:=.region n (cnOps n) false
noncomputable def cnLoop1:Code:=.seq (.seq (rg 10) (.cond (.tmp 56) .skip (.exit 0))) (.seq (.block 1 (.seq (rg 12) (.seq (rg 13) (.block 2 (.seq (rg 15) (.cond (.tmp 73) (rg 16) (.seq (rg 17) (.cond (.tmp 81) (rg 18) (rg 14))))))))) (rg 11))
noncomputable def cnLoop2:Code:=.seq (.seq (rg 22) (.cond (.tmp 92) .skip (.exit 3))) (.seq (.block 4 (.seq (rg 24) (.seq (rg 25) (rg 26)))) (rg 23))
noncomputable def cnLoop3:Code:=.seq (.seq (rg 31) (.cond (.tmp 120) .skip (.exit 5))) (.seq (.block 6 (.seq (rg 33) (.seq (rg 34) (.seq (rg 35) (.seq (rg 36) (rg 37)))))) (rg 32))
noncomputable def cnEnd:Code:=.seq (rg 38) (.seq (rg 39) (.seq (rg 40) (.seq (rg 41) (.seq (rg 42) (.seq (rg 43) .ret)))))
noncomputable def cnMid:Code:=.seq (rg 19) (.seq (rg 20) (.seq (.seq (rg 21) (.block 3 (.loop cnLoop2))) (.seq (rg 27) (.seq (rg 28) (.seq (rg 29) (.seq (.seq (rg 30) (.block 5 (.loop cnLoop3))) cnEnd))))))
noncomputable def cnBody:Code:=.seq (rg 0) (.seq (rg 1) (.seq (rg 2) (.seq (rg 3) (.seq (.seq (rg 4) (.cond (.tmp 48) (.seq (rg 5) .ret) .skip)) (.seq (rg 6) (.seq (.seq (rg 7) (.cond (.tmp 52) (.seq (rg 8) .ret) .skip)) (.seq (.seq (rg 9) (.block 0 (.loop cnLoop1))) cnMid)))))))
theorem cn_body:Tryd.f6.body=some cnBody:=by kernel_rfl
section
variable {sz:Nat} {env:List (Nat × Value)} {l:List OpD} {main:Bool} {sft:Nat→Nat} {Stop:Goroutine→World→Prop} {b:Frame} {a:Act} {ops:Array Oper} {i D:Nat} {o:Oper} {rest:List Nat} {k:List Item} {cs:List Frame} {w:World} {v:Value}
theorem lw_val (hA:Lvs sz env a)(ho:ops[i]?=some o)(hw:Region.wanted o (yielded ops a.tmps)=true)(hk:b.kind≠.early)(hop:Br.okOp Tryd.prog (fun _=>false) [] false o.op=true)(hd:o.dst=some D)(hD:D<sz)(hv:∀ d,(execOp a.eval o).run Tryd.prog (w.at d)=.ok (.value v) (w.at d))
  (h:∀ a',Lvs sz ((D,v)::env.filter (fun p=>p.1 != D)) a'→Liv Tryd.prog main true sft Stop (G (b.at a' (.inRegion ops rest::k)) cs) w):Liv Tryd.prog main true sft Stop (G (b.at a (.inRegion ops (i::rest)::k)) cs) w :=
 lv_val ho hw hk hop hv (h _ (by rw [hd];exact hA.put hD v))
theorem lw_skip (hA:Lvs sz env a)(ho:ops[i]?=some o)(hw:Region.wanted o (yielded ops a.tmps)=false)(hd:o.dst=some D)(hD:D<sz)
  (h:∀ a',Lvs sz ((D,undef)::env.filter (fun p=>p.1 != D)) a'→Liv Tryd.prog main true sft Stop (G (b.at a' (.inRegion ops rest::k)) cs) w):Liv Tryd.prog main true sft Stop (G (b.at a (.inRegion ops (i::rest)::k)) cs) w :=
 Br.liv_unwanted ho hw (h _ (by rw [hd];exact hA.put hD undef))
theorem lw_made {ob:Obj}(hA:Lvs sz env a)(ho:ops[i]?=some o)(hg:o.guard=none)(hk:b.kind≠.early)(hd:o.dst=some D)(hD:D<sz)(hv:∀ d,(execOp a.eval o).run Tryd.prog (w.at d)=.ok (.value v) ((w.at d).alloc ob))(he:∀ d,(execOp a.eval o).events Tryd.prog (w.at d) #[]=#[])(hs:Br.Obj.sight ob)
  (h:∀ a',Lvs sz ((D,v)::env.filter (fun p=>p.1 != D)) a'→Liv Tryd.prog main true sft Stop (G (b.at a' (.inRegion ops rest::k)) cs) (w.alloc ob)):Liv Tryd.prog main true sft Stop (G (b.at a (.inRegion ops (i::rest)::k)) cs) w :=
 lv_made ho hg hk hv he hs (h _ (by rw [hd];exact hA.put hD v))
theorem lw_call {f:FuncId}{fn:Func}{c:Code}{args:Array Operand}{ats:Array TypeId}{vs:Array Value}{R:Value→World→Prop}(hA:Lvs sz env a)(ho:ops[i]?=some o)(hg:o.guard=none)(hk:b.kind≠.early)(hop:o.op=.call { callee:=.value (.func f),args,argTypes:=ats })(hd:o.dst=some D)(hD:D<sz)
  (hf:Tryd.prog.funcs[f]?=some fn)(hname:(fn.name == "runtime.NumGoroutine")=false)(hb:fn.body=some c)(hargs:args.map a.eval=vs)
  (hm:∀ fr cs d,Must Tryd.prog main (DL true sft) (fun g w'=>∃ x,g=G (fr.finish x) cs∧R x w') (G (Frame.enter Tryd.prog f vs .normal) (fr::cs)) (w.at d))
  (hn:∀ x w',R x w'→∀ a',Lvs sz ((D,x)::env.filter (fun p=>p.1 != D)) a'→Liv Tryd.prog main true sft Stop (G (b.at a' (.inRegion ops rest::k)) cs) w'):Liv Tryd.prog main true sft Stop (G (b.at a (.inRegion ops (i::rest)::k)) cs) w :=
 lv_call ho hg hk hop hf hname hb hargs hm fun x w' hR=>hn x w' hR _ (by rw [hd];exact hA.put hD x)
theorem lw_region {n m:Nat}{il:List Nat}(hr:List.range (cnOps n).size=il)(h:Liv Tryd.prog main true sft Stop (G (b.at a (.inRegion (cnOps n) il::k)) cs) w):Liv Tryd.prog main true sft Stop (G (b.at a (.code (rg n)::k)) cs) w:=Br.liv_region (by rw [hr];exact h)
end
set_option maxRecDepth 100000 in
theorem cn_a {Stop:Goroutine→World→Prop}{w:World}(T:Tab w){x y z:Int}{scr:Value}{a:Act}{R:Code}(hA:Lvs 211 [(0,.agg #[.int .i64 x,.int .i64 y,.int .i64 z]),(1,scr)] a)(k:List Item)(cs:List Frame)
  (hn:∀ a' w',Grown w w'→w'.heap[w.heap.size]?=some (.cells #[.int .i64 x,.int .i64 y,.int .i64 z] 30 (0,0))→Lvs 211 [(1,scr),(2,.pointer (some ⟨w.heap.size,0,none⟩)),(5,.bool true)] a'→Liv Tryd.prog true true (sfO []) Stop (G ((base 6).at a' (.code R::k)) cs) w') :
  Liv Tryd.prog true true (sfO []) Stop (G ((base 6).at a (.code (.seq (rg 0) (.seq (rg 1) R))::k)) cs) w:=by
 refine Br.liv_seq ?_
 have e0:=hA.get (t:=0) rfl
 refine lw_region (m:=0) (il:=[0,1]) (by kernel_rfl) ?_
 obtain ⟨o,ho,hop,hd,hg⟩:∃ o,(cnOps 0)[0]?=some o∧o.op=.box 30 (.tmp 0)∧o.dst=some 2∧o.guard=none:=⟨_,rfl,rfl,rfl,rfl⟩
 refine lw_made (ob:=.cells #[.int .i64 x,.int .i64 y,.int .i64 z] 30 (0,0)) (v:=.pointer (some ⟨w.heap.size,0,none⟩)) hA ho hg (by decide) hd (by decide) (fun d=>by unfold execOp;simp only [hop,e0];go_simp) (fun d=>by unfold execOp;simp only [hop,e0];simp [go_sem]) trivial (fun a (hA:Lvs 211 [(2,.pointer (some ⟨w.heap.size,0,none⟩)),(0,.agg #[.int .i64 x,.int .i64 y,.int .i64 z]),(1,scr)] a)=>?_)
 refine lw_val (v:=.bool false) hA rfl (wanted_none rfl) (by decide) (by kernel_rfl) rfl (by decide) (fun d=>run_assign rfl rfl) (fun a (hA:Lvs 211 [(4,.bool false),(2,.pointer (some ⟨w.heap.size,0,none⟩)),(0,.agg #[.int .i64 x,.int .i64 y,.int .i64 z]),(1,scr)] a)=>?_)
 refine Br.liv_region_end ?_
 have hG:=grown_alloc (w:=w) trivial (ob:=.cells #[.int .i64 x,.int .i64 y,.int .i64 z] 30 (0,0)) trivial
 have hX:=heap_alloc_new w (.cells #[.int .i64 x,.int .i64 y,.int .i64 z] 30 (0,0))
 have hlt:w.heap.size<(w.alloc (.cells #[.int .i64 x,.int .i64 y,.int .i64 z] 30 (0,0))).heap.size:=by simp
 generalize w.alloc (.cells #[.int .i64 x,.int .i64 y,.int .i64 z] 30 (0,0))=w1 at *
 refine Br.liv_seq ?_
 refine lw_region (m:=0) (il:=[0,1]) (by kernel_rfl) ?_
 refine lw_call (vs:=#[]) hA rfl rfl (by decide) rfl rfl (by decide) Tryd.func9 rfl rfl (by simp) (fun fr cs d=>must_works (T.same (hG.old 0 T.lt)) fr cs d) (fun u w2 hR a hA=>?_)
 obtain ⟨hG2,rfl⟩:=hR
 refine lw_val (v:=.bool true) hA rfl (wanted_none rfl) (by decide) (by kernel_rfl) rfl (by decide) (fun d=>run_assign rfl (hA.get rfl)) (fun a hA=>?_)
 refine Br.liv_region_end ?_
 exact hn a w2 (hG.trans hG2) ((hG2.old _ hlt).trans hX) (hA.sub (fun p hp=>by
  simp only [List.mem_cons,List.not_mem_nil,or_false] at hp
  rcases hp with rfl|rfl|rfl<;>rfl))
theorem lw_skipped {sz:Nat}{env:List (Nat × Value)}{main:Bool}{sft:Nat→Nat}{Stop:Goroutine→World→Prop}{b:Frame}{a:Act}{ops:Array Oper}{i:Nat}{o:Oper}{rest:List Nat}{k:List Item}{cs:List Frame}{w:World}{R:World→World→Prop}(hA:Lvs sz env a)(ho:ops[i]?=some o)(hg:o.guard=none)(hk:b.kind≠.early)(hop:Br.okOp Tryd.prog (fun _=>false) [] true o.op=true)(hd:o.dst=none)(hft:Fit sft w)
  (hv:∀ d v,Lk sft v (w.at d)→∃ v',(execOp a.eval o).run Tryd.prog v=.ok .skip v'∧R v v')
  (h:∀ d w' v v',Lk sft v (w.at d)→Lk sft v' w'→Br.Kept sft (w.at d) w'→R v v'→Liv Tryd.prog main true sft Stop (G (b.at a (.inRegion ops rest::k)) cs) w') :
  Liv Tryd.prog main true sft Stop (G (b.at a (.inRegion ops (i::rest)::k)) cs) w :=
 lv_lone ho hg hk hop (.inl rfl) hft hv fun d w' v v' h1 h2 h3 h4=>by rw [hd];exact h d w' v v' h1 h2 h3 h4
set_option maxRecDepth 100000 in
theorem cn_b {Stop:Goroutine→World→Prop}{w:World}{cB:Nat}{x y z:Int}{scr:Value}(hX:w.heap[cB]?=some (.cells #[.int .i64 x,.int .i64 y,.int .i64 z] 30 (0,0)))(hx:-9223372036854775808≤x∧x<9223372036854775808)(hy:-9223372036854775808≤y∧y<9223372036854775808)(hz:-9223372036854775808≤z∧z<9223372036854775808)
  {a:Act}(hA:Lvs 211 [(1,scr),(2,.pointer (some ⟨cB,0,none⟩)),(5,.bool true)] a)(k:List Item)(cs:List Frame)
  (hn:∀ a' w',w.heap.size≤w'.heap.size→(∀ k,k<w.heap.size→k≠cB→w'.heap[k]?=w.heap[k]?)→w'.heap[cB]?=some (.cells #[.int .i64 ((2+pickN x 31:Nat):Int),.int .i64 ((1+pickN y 6:Nat):Int),.int .i64 (pickN z 5:Nat)] 30 (0,0))→Lvs 211 [(1,scr),(2,.pointer (some ⟨cB,0,none⟩)),(5,.bool true)] a'→Liv Tryd.prog true true (sfO []) Stop (G ((base 6).at a' k) cs) w') :
  Liv Tryd.prog true true (sfO []) Stop (G ((base 6).at a (.code (rg 2)::k)) cs) w:=by
 have lcB:cB<w.heap.size:=(Array.getElem?_eq_some_iff.1 hX).1
 have e2:=hA.get (t:=2) rfl
 refine lw_region (m:=0) (il:=[0,1,2]) (by kernel_rfl) ?_
 have c0:∀ d,(w.at d).cell? ⟨cB,0,none⟩=some (.int .i64 x):=fun d=>by show w.cell? _=_;simp [World.cell?,hX]
 have c1:∀ d,(w.at d).cell? ⟨cB,1,none⟩=some (.int .i64 y):=fun d=>by show w.cell? _=_;simp [World.cell?,hX]
 have c2:∀ d,(w.at d).cell? ⟨cB,2,none⟩=some (.int .i64 z):=fun d=>by show w.cell? _=_;simp [World.cell?,hX]
 obtain ⟨o,ho,hop,hd,hg⟩:∃ o,(cnOps 2)[0]?=some o∧o.op=.load 30 (.tmp 2)∧o.dst=some 32∧o.guard=none:=⟨_,rfl,rfl,rfl,rfl⟩
 refine lw_val (v:=.agg #[.int .i64 x,.int .i64 y,.int .i64 z]) hA ho (wanted_none hg) (by decide) (by rw [hop];rfl) hd (by decide) (fun d=>by have z0:=c0 d;have z1:=c1 d;have z2:=c2 d;clear c0 c1 c2;unfold execOp;simp only [hop,e2];go_simp;try rfl) (fun a (hA:Lvs 211 [(32,.agg #[.int .i64 x,.int .i64 y,.int .i64 z]),(1,scr),(2,.pointer (some ⟨cB,0,none⟩)),(5,.bool true)] a)=>?_)
 clear ho hop hd hg c0 c1 c2
 have e32:=hA.get (t:=32) rfl
 refine lw_call (vs:=#[.agg #[.int .i64 x,.int .i64 y,.int .i64 z]]) hA rfl rfl (by decide) rfl rfl (by decide) Tryd.func12 rfl rfl (by simp only [List.map_toArray,List.map_cons,List.map_nil,e32]) (fun fr cs d=>must_settings hx hy hz fr cs d) (fun u w1 hR a hA=>?_)
 obtain ⟨hG,rfl⟩:=hR
 have e2:=hA.get (t:=2) rfl
 have e33:=hA.get (t:=33) rfl
 have hX1:w1.heap[cB]?=some (.cells #[.int .i64 x,.int .i64 y,.int .i64 z] 30 (0,0)):=(hG.old _ lcB).trans hX
 generalize ((2+pickN x 31:Nat):Int)=nF at *
 generalize ((1+pickN y 6:Nat):Int)=nS at *
 generalize ((pickN z 5:Nat):Int)=nD at *
 obtain ⟨o,ho,hop,hd,hg⟩:∃ o,(cnOps 2)[2]?=some o∧o.op=.store 30 (.tmp 2) (.tmp 33)∧o.dst=none∧o.guard=none:=⟨_,rfl,rfl,rfl,rfl⟩
 refine lw_skipped (R:=fun v v'=>v'=((v.setCell ⟨cB,0,none⟩ (.int .i64 nF)).setCell ⟨cB,1,none⟩ (.int .i64 nS)).setCell ⟨cB,2,none⟩ (.int .i64 nD)) hA ho hg (by decide) (by rw [hop];rfl) hd (fit_nil _) (fun d v hv=>⟨_,?_,rfl⟩) (fun d w2 v v' hv hl' hkp hR=>?_)
 ·have c0:v.cell? ⟨cB,0,none⟩=some (.int .i64 x):=by rw [hv.cell];show w1.cell? _=_;simp [World.cell?,hX1]
  have c1:v.cell? ⟨cB,1,none⟩=some (.int .i64 y):=by rw [hv.cell];show w1.cell? _=_;simp [World.cell?,hX1]
  have c2:v.cell? ⟨cB,2,none⟩=some (.int .i64 z):=by rw [hv.cell];show w1.cell? _=_;simp [World.cell?,hX1]
  have fz:∀ j,v.frozen? ⟨cB,j,none⟩=false:=fun j=>by
   rw [frozen_lk hv (sf_nil _)];show w1.frozen? _=_;simp [World.frozen?,hX1]
  clear hn hX hX1 hv
  unfold execOp
  simp only [hop,e2,e33]
  go_simp
 ·refine Br.liv_region_end ?_
  subst hR
  have sv:v.heap.size=w1.heap.size:=hv.size
  have sv':=hl'.size
  have hvX:v.heap[cB]?=some (.cells #[.int .i64 x,.int .i64 y,.int .i64 z] 30 (0,0)):=by
   rw [lk_same (w:=w1.at d) hv (sf_nil _) (.inl ⟨_,_,_,hX1⟩)];exact hX1
  have hv3:(((v.setCell ⟨cB,0,none⟩ (.int .i64 nF)).setCell ⟨cB,1,none⟩ (.int .i64 nS)).setCell ⟨cB,2,none⟩ (.int .i64 nD)).heap[cB]?=some (.cells #[.int .i64 nF,.int .i64 nS,.int .i64 nD] 30 (0,0)) :=
   row_set #[.int .i64 nF,.int .i64 nS,.int .i64 z] _ 2 _ _ cB (row_set #[.int .i64 nF,.int .i64 y,.int .i64 z] _ 1 _ _ cB (row_set #[.int .i64 x,.int .i64 y,.int .i64 z] _ 0 _ _ cB hvX))
  refine hn a w2 ?_ (fun k hk hne=>?_) ?_ (hA.sub (fun p hp=>by
   simp only [List.mem_cons,List.not_mem_nil,or_false] at hp
   rcases hp with rfl|rfl|rfl<;>rfl))
  ·have:=hkp.size;have:=hG.size
   exact Nat.le_trans hG.size hkp.size
  ·have h1:=hG.old k hk
   rw [← h1]
   refine same_block (w:=w1.at d) hkp hv hl' ?_
   have hne':cB≠k:=fun e=>hne e.symm
   rw [Br.heap_setCell,if_neg hne',Br.heap_setCell,if_neg hne',Br.heap_setCell,if_neg hne']
  ·rw [← lk_same hl' (sf_nil _) (.inr ⟨_,_,_,hv3⟩)];exact hv3
theorem must_knewX {w:World}(T:Tab w)(nF nS nD:Nat)(h1:2≤nF)(h2:nF≤32)(h3:1≤nS)(h4:nS≤6)(h5:nD≤4)(fr:Frame)(cs:List Frame)(d:Nat) :
  Must Tryd.prog true (DL true (sfO [])) (fun g w'=>∃ x,g=G (fr.finish x) cs∧∃ kb:Kb,x=.tuple #[.pointer (some ⟨kb.bk,0,none⟩),.int .i64 0]∧Grown w w'∧w.heap.size≤kb.bk∧w.heap.size≤kb.bf∧w.heap.size≤kb.bs∧w.heap.size≤kb.bd∧∀ r,Co kb [] (kNew nF nS nD) (fun _=>none) r (fun _=>none) 1 w')
   (G (Frame.enter Tryd.prog 10 #[.agg #[.int .i64 nF,.int .i64 nS,.int .i64 nD]] .normal) (fr::cs)) (w.at d) :=
 (must_knew T nF nS nD h1 h2 h3 h4 h5 fr cs d).mono (fun _ _ _ h=>h) fun g w' ⟨kb,h,h'⟩=>⟨_,h,kb,rfl,h'⟩
set_option maxRecDepth 100000 in
theorem cn_c {Stop:Goroutine→World→Prop}{w:World}(T:Tab w){cB nF nS nD:Nat}{scr:Value}{B R:Code}(h1:2≤nF)(h2:nF≤32)(h3:1≤nS)(h4:nS≤6)(h5:nD≤4)(hX:w.heap[cB]?=some (.cells #[.int .i64 nF,.int .i64 nS,.int .i64 nD] 30 (0,0)))
  {a:Act}(hA:Lvs 211 [(1,scr),(2,.pointer (some ⟨cB,0,none⟩)),(5,.bool true)] a)(k:List Item)(cs:List Frame)
  (hn:∀ a' w' (kb:Kb) (b:Lb),Grown w w'→w.heap.size≤kb.bk→w.heap.size≤kb.bf→w.heap.size≤kb.bs→w.heap.size≤kb.bd→(∀ r,Co kb [] (kNew nF nS nD) (fun _=>none) r (fun _=>none) 1 w')→LibM kb [] (fun _=>none) w' b (kNew nF nS nD).nS (b.bl+1) (fun _=>none) (fun _=>.slice none 0 0) (fun _=>0) (fun _=>[])→(w.heap.size≤b.bu∧w.heap.size≤b.bn) →
   Lvs 211 [(1,scr),(2,.pointer (some ⟨cB,0,none⟩)),(5,.bool true),(6,.pointer (some ⟨kb.bk,0,none⟩)),(8,.pointer (some ⟨b.bl,0,none⟩)),(9,.int .i64 0)] a'→Liv Tryd.prog true true (sfO []) Stop (G ((base 6).at a' (.code B::.code R::k)) cs) w') :
  Liv Tryd.prog true true (sfO []) Stop (G ((base 6).at a (.code (.seq (rg 3) (.seq (.seq (rg 4) (.cond (.tmp 48) (.seq (rg 5) .ret) .skip)) (.seq (rg 6) (.seq (.seq (rg 7) (.cond (.tmp 52) (.seq (rg 8) .ret) .skip)) (.seq (.seq (rg 9) B) R)))))::k)) cs) w:=by
 refine Br.liv_seq ?_
 have lcB:cB<w.heap.size:=(Array.getElem?_eq_some_iff.1 hX).1
 have c0:∀ d,(w.at d).cell? ⟨cB,0,none⟩=some (.int .i64 nF):=fun d=>by show w.cell? _=_;simp [World.cell?,hX]
 have c1:∀ d,(w.at d).cell? ⟨cB,1,none⟩=some (.int .i64 nS):=fun d=>by show w.cell? _=_;simp [World.cell?,hX]
 have c2:∀ d,(w.at d).cell? ⟨cB,2,none⟩=some (.int .i64 nD):=fun d=>by show w.cell? _=_;simp [World.cell?,hX]
 refine lw_region (n:=3) (m:=0) (il:=[0,1,2,3,4,5,6]) (by kernel_rfl) ?_
 obtain ⟨o,ho,hop,hd,hg⟩:∃ o,(cnOps 3)[0]?=some o∧o.op=.load 30 (.tmp 2)∧o.dst=some 35∧o.guard=none:=⟨_,rfl,rfl,rfl,rfl⟩
 have e2:=hA.get (t:=2) rfl
 refine lw_val (v:=.agg #[.int .i64 nF,.int .i64 nS,.int .i64 nD]) hA ho (wanted_none hg) (by decide) (by rw [hop];rfl) hd (by decide) (fun d=>by have z0:=c0 d;have z1:=c1 d;have z2:=c2 d;clear c0 c1 c2;unfold execOp;simp only [hop,e2];go_simp;try rfl) (fun a (hA:Lvs 211 [(35,.agg #[.int .i64 nF,.int .i64 nS,.int .i64 nD]),(1,scr),(2,.pointer (some ⟨cB,0,none⟩)),(5,.bool true)] a)=>?_)
 clear ho hop hd hg e2
 have e35:=hA.get (t:=35) rfl
 refine lw_call (vs:=#[.agg #[.int .i64 nF,.int .i64 nS,.int .i64 nD]]) hA rfl rfl (by decide) rfl rfl (by decide) Tryd.func10 rfl rfl (by simp only [List.map_toArray,List.map_cons,List.map_nil,e35]) (fun fr cs d=>must_knewX T nF nS nD h1 h2 h3 h4 h5 fr cs d) (fun u w' hR a hA=>?_)
 obtain ⟨kb,rfl,hG,g1,g2,g3,g4,hco⟩:=hR
 replace hA:Lvs 211 [(36,.tuple #[.pointer (some ⟨kb.bk,0,none⟩),.int .i64 0]),(35,.agg #[.int .i64 nF,.int .i64 nS,.int .i64 nD]),(1,scr),(2,.pointer (some ⟨cB,0,none⟩)),(5,.bool true)] a:=hA
 clear c0 c1 c2
 refine lw_val (v:=.tuple #[.pointer (some ⟨kb.bk,0,none⟩),.int .i64 0]) hA rfl (wanted_none rfl) (by decide) (by kernel_rfl) rfl (by decide) (fun d=>run_move rfl (hA.get rfl)) (fun a (hA:Lvs 211 [(34,.tuple #[.pointer (some ⟨kb.bk,0,none⟩),.int .i64 0]),(36,.tuple #[.pointer (some ⟨kb.bk,0,none⟩),.int .i64 0]),(35,.agg #[.int .i64 nF,.int .i64 nS,.int .i64 nD]),(1,scr),(2,.pointer (some ⟨cB,0,none⟩)),(5,.bool true)] a)=>?_)
 obtain ⟨o,ho,hop,hd,hg⟩:∃ o,(cnOps 3)[3]?=some o∧o.op=.extract (.tmp 34) 0∧o.dst=some 37∧o.guard=none:=⟨_,rfl,rfl,rfl,rfl⟩
 have e34:=hA.get (t:=34) rfl
 refine lw_val (v:=.pointer (some ⟨kb.bk,0,none⟩)) hA ho (wanted_none hg) (by decide) (by rw [hop];rfl) hd (by decide) (fun d=>by unfold execOp;simp only [hop,e34];rfl) (fun a (hA:Lvs 211 [(37,.pointer (some ⟨kb.bk,0,none⟩)),(34,.tuple #[.pointer (some ⟨kb.bk,0,none⟩),.int .i64 0]),(36,.tuple #[.pointer (some ⟨kb.bk,0,none⟩),.int .i64 0]),(35,.agg #[.int .i64 nF,.int .i64 nS,.int .i64 nD]),(1,scr),(2,.pointer (some ⟨cB,0,none⟩)),(5,.bool true)] a)=>?_)
 clear ho hop hd hg e34
 obtain ⟨o,ho,hop,hd,hg⟩:∃ o,(cnOps 3)[4]?=some o∧o.op=.extract (.tmp 34) 1∧o.dst=some 38∧o.guard=none:=⟨_,rfl,rfl,rfl,rfl⟩
 have e34:=hA.get (t:=34) rfl
 refine lw_val (v:=.int .i64 0) hA ho (wanted_none hg) (by decide) (by rw [hop];rfl) hd (by decide) (fun d=>by unfold execOp;simp only [hop,e34];rfl) (fun a (hA:Lvs 211 [(38,.int .i64 0),(37,.pointer (some ⟨kb.bk,0,none⟩)),(34,.tuple #[.pointer (some ⟨kb.bk,0,none⟩),.int .i64 0]),(36,.tuple #[.pointer (some ⟨kb.bk,0,none⟩),.int .i64 0]),(35,.agg #[.int .i64 nF,.int .i64 nS,.int .i64 nD]),(1,scr),(2,.pointer (some ⟨cB,0,none⟩)),(5,.bool true)] a)=>?_)
 clear ho hop hd hg e34
 refine lw_val (v:=.pointer (some ⟨kb.bk,0,none⟩)) hA rfl (wanted_none rfl) (by decide) (by kernel_rfl) rfl (by decide) (fun d=>run_assign rfl (hA.get rfl)) (fun a (hA:Lvs 211 [(6,.pointer (some ⟨kb.bk,0,none⟩)),(38,.int .i64 0),(37,.pointer (some ⟨kb.bk,0,none⟩)),(34,.tuple #[.pointer (some ⟨kb.bk,0,none⟩),.int .i64 0]),(36,.tuple #[.pointer (some ⟨kb.bk,0,none⟩),.int .i64 0]),(35,.agg #[.int .i64 nF,.int .i64 nS,.int .i64 nD]),(1,scr),(2,.pointer (some ⟨cB,0,none⟩)),(5,.bool true)] a)=>?_)
 refine lw_val (v:=.int .i64 0) hA rfl (wanted_none rfl) (by decide) (by kernel_rfl) rfl (by decide) (fun d=>run_assign rfl (hA.get rfl)) (fun a (hA:Lvs 211 [(7,.int .i64 0),(6,.pointer (some ⟨kb.bk,0,none⟩)),(38,.int .i64 0),(37,.pointer (some ⟨kb.bk,0,none⟩)),(34,.tuple #[.pointer (some ⟨kb.bk,0,none⟩),.int .i64 0]),(36,.tuple #[.pointer (some ⟨kb.bk,0,none⟩),.int .i64 0]),(35,.agg #[.int .i64 nF,.int .i64 nS,.int .i64 nD]),(1,scr),(2,.pointer (some ⟨cB,0,none⟩)),(5,.bool true)] a)=>?_)
 refine Br.liv_region_end ?_
 replace hA:Lvs 211 [(1,scr),(2,.pointer (some ⟨cB,0,none⟩)),(5,.bool true),(6,.pointer (some ⟨kb.bk,0,none⟩)),(7,.int .i64 0)] a:=hA.sub (fun p hp=>by
  simp only [List.mem_cons,List.not_mem_nil,or_false] at hp
  rcases hp with rfl|rfl|rfl|rfl|rfl<;>rfl)
 refine Br.liv_seq ?_
 refine Br.liv_seq ?_
 refine lw_region (n:=4) (m:=0) (il:=[0,1,2,3,4,5,6,7,8,9]) (by kernel_rfl) ?_
 refine lw_val (v:=.bool true) hA rfl (wanted_none rfl) (by decide) (by kernel_rfl) rfl (by decide) (fun d=>run_move rfl (hA.get rfl)) (fun a (hA:Lvs 211 [(39,.bool true),(1,scr),(2,.pointer (some ⟨cB,0,none⟩)),(5,.bool true),(6,.pointer (some ⟨kb.bk,0,none⟩)),(7,.int .i64 0)] a)=>?_)
 obtain ⟨o,ho,hop,hd,hg⟩:∃ o,(cnOps 4)[1]?=some o∧o.op=.unOp .not 4 (.tmp 39)∧o.dst=some 40∧o.guard=none:=⟨_,rfl,rfl,rfl,rfl⟩
 have e39:=hA.get (t:=39) rfl
 refine lw_val (v:=.bool false) hA ho (wanted_none hg) (by decide) (by rw [hop];rfl) hd (by decide) (fun d=>by unfold execOp;simp only [hop,e39];go_simp) (fun a (hA:Lvs 211 [(40,.bool false),(39,.bool true),(1,scr),(2,.pointer (some ⟨cB,0,none⟩)),(5,.bool true),(6,.pointer (some ⟨kb.bk,0,none⟩)),(7,.int .i64 0)] a)=>?_)
 clear ho hop hd hg e39
 refine lw_val (v:=.bool false) hA rfl (wanted_none rfl) (by decide) (by kernel_rfl) rfl (by decide) (fun d=>run_move rfl (hA.get rfl)) (fun a (hA:Lvs 211 [(41,.bool false),(40,.bool false),(39,.bool true),(1,scr),(2,.pointer (some ⟨cB,0,none⟩)),(5,.bool true),(6,.pointer (some ⟨kb.bk,0,none⟩)),(7,.int .i64 0)] a)=>?_)
 refine lw_val (v:=.pointer (some ⟨kb.bk,0,none⟩)) hA rfl ((hA.wanted (x:=false) rfl rfl rfl rfl).trans rfl) (by decide) (by kernel_rfl) rfl (by decide) (fun d=>run_move rfl (hA.get rfl)) (fun a (hA:Lvs 211 [(42,.pointer (some ⟨kb.bk,0,none⟩)),(41,.bool false),(40,.bool false),(39,.bool true),(1,scr),(2,.pointer (some ⟨cB,0,none⟩)),(5,.bool true),(6,.pointer (some ⟨kb.bk,0,none⟩)),(7,.int .i64 0)] a)=>?_)
 obtain ⟨o,ho,hop,hd,hg⟩:∃ o,(cnOps 4)[4]?=some o∧o.op=.binOp .eql 25 (.tmp 42) (.const (.pointer none)) 25∧o.dst=some 43∧o.guard=some (2,false):=⟨_,rfl,rfl,rfl,rfl⟩
 have e42:=hA.get (t:=42) rfl
 refine lw_val (v:=.bool false) hA ho ((hA.wanted (x:=false) hg rfl rfl rfl).trans rfl) (by decide) (by rw [hop];rfl) hd (by decide) (fun d=>by unfold execOp;simp only [hop,e42];go_simp) (fun a (hA:Lvs 211 [(43,.bool false),(42,.pointer (some ⟨kb.bk,0,none⟩)),(41,.bool false),(40,.bool false),(39,.bool true),(1,scr),(2,.pointer (some ⟨cB,0,none⟩)),(5,.bool true),(6,.pointer (some ⟨kb.bk,0,none⟩)),(7,.int .i64 0)] a)=>?_)
 clear ho hop hd hg e42
 obtain ⟨o,ho,hop,hd,hg⟩:∃ o,(cnOps 4)[5]?=some o∧o.op=.pick (.tmp 41) (.const (.bool true)) (.tmp 43)∧o.dst=some 44∧o.guard=none:=⟨_,rfl,rfl,rfl,rfl⟩
 have e41:=hA.get (t:=41) rfl
 have e43:=hA.get (t:=43) rfl
 refine lw_val (v:=.bool false) hA ho (wanted_none hg) (by decide) (by rw [hop];rfl) hd (by decide) (fun d=>by unfold execOp;simp only [hop,e41,e43];go_simp) (fun a (hA:Lvs 211 [(44,.bool false),(43,.bool false),(42,.pointer (some ⟨kb.bk,0,none⟩)),(41,.bool false),(40,.bool false),(39,.bool true),(1,scr),(2,.pointer (some ⟨cB,0,none⟩)),(5,.bool true),(6,.pointer (some ⟨kb.bk,0,none⟩)),(7,.int .i64 0)] a)=>?_)
 clear ho hop hd hg e41 e43
 refine lw_val (v:=.bool false) hA rfl (wanted_none rfl) (by decide) (by kernel_rfl) rfl (by decide) (fun d=>run_move rfl (hA.get rfl)) (fun a (hA:Lvs 211 [(45,.bool false),(44,.bool false),(43,.bool false),(42,.pointer (some ⟨kb.bk,0,none⟩)),(41,.bool false),(40,.bool false),(39,.bool true),(1,scr),(2,.pointer (some ⟨cB,0,none⟩)),(5,.bool true),(6,.pointer (some ⟨kb.bk,0,none⟩)),(7,.int .i64 0)] a)=>?_)
 refine lw_val (v:=.int .i64 0) hA rfl ((hA.wanted (x:=false) rfl rfl rfl rfl).trans rfl) (by decide) (by kernel_rfl) rfl (by decide) (fun d=>run_move rfl (hA.get rfl)) (fun a (hA:Lvs 211 [(46,.int .i64 0),(45,.bool false),(44,.bool false),(43,.bool false),(42,.pointer (some ⟨kb.bk,0,none⟩)),(41,.bool false),(40,.bool false),(39,.bool true),(1,scr),(2,.pointer (some ⟨cB,0,none⟩)),(5,.bool true),(6,.pointer (some ⟨kb.bk,0,none⟩)),(7,.int .i64 0)] a)=>?_)
 obtain ⟨o,ho,hop,hd,hg⟩:∃ o,(cnOps 4)[8]?=some o∧o.op=.binOp .neq 26 (.tmp 46) (.const (.int .i64 0)) 26∧o.dst=some 47∧o.guard=some (6,false):=⟨_,rfl,rfl,rfl,rfl⟩
 have e46:=hA.get (t:=46) rfl
 refine lw_val (v:=.bool false) hA ho ((hA.wanted (x:=false) hg rfl rfl rfl).trans rfl) (by decide) (by rw [hop];rfl) hd (by decide) (fun d=>by unfold execOp;simp only [hop,e46];go_simp) (fun a (hA:Lvs 211 [(47,.bool false),(46,.int .i64 0),(45,.bool false),(44,.bool false),(43,.bool false),(42,.pointer (some ⟨kb.bk,0,none⟩)),(41,.bool false),(40,.bool false),(39,.bool true),(1,scr),(2,.pointer (some ⟨cB,0,none⟩)),(5,.bool true),(6,.pointer (some ⟨kb.bk,0,none⟩)),(7,.int .i64 0)] a)=>?_)
 clear ho hop hd hg e46
 obtain ⟨o,ho,hop,hd,hg⟩:∃ o,(cnOps 4)[9]?=some o∧o.op=.pick (.tmp 45) (.const (.bool true)) (.tmp 47)∧o.dst=some 48∧o.guard=none:=⟨_,rfl,rfl,rfl,rfl⟩
 have e45:=hA.get (t:=45) rfl
 have e47:=hA.get (t:=47) rfl
 refine lw_val (v:=.bool false) hA ho (wanted_none hg) (by decide) (by rw [hop];rfl) hd (by decide) (fun d=>by unfold execOp;simp only [hop,e45,e47];go_simp) (fun a (hA:Lvs 211 [(48,.bool false),(47,.bool false),(46,.int .i64 0),(45,.bool false),(44,.bool false),(43,.bool false),(42,.pointer (some ⟨kb.bk,0,none⟩)),(41,.bool false),(40,.bool false),(39,.bool true),(1,scr),(2,.pointer (some ⟨cB,0,none⟩)),(5,.bool true),(6,.pointer (some ⟨kb.bk,0,none⟩)),(7,.int .i64 0)] a)=>?_)
 clear ho hop hd hg e45 e47
 refine Br.liv_region_end ?_
 replace hA:Lvs 211 [(1,scr),(2,.pointer (some ⟨cB,0,none⟩)),(5,.bool true),(6,.pointer (some ⟨kb.bk,0,none⟩)),(48,.bool false)] a:=hA.sub (fun p hp=>by
  simp only [List.mem_cons,List.not_mem_nil,or_false] at hp
  rcases hp with rfl|rfl|rfl|rfl|rfl<;>rfl)
 refine Br.liv_cond (t:=false) (hA.get rfl) ?_
 refine Br.liv_skip ?_
 refine Br.liv_seq ?_
 refine lw_region (n:=6) (m:=0) (il:=[0,1,2]) (by kernel_rfl) ?_
 refine lw_val (v:=.pointer (some ⟨kb.bk,0,none⟩)) hA rfl (wanted_none rfl) (by decide) (by kernel_rfl) rfl (by decide) (fun d=>run_move rfl (hA.get rfl)) (fun a (hA:Lvs 211 [(49,.pointer (some ⟨kb.bk,0,none⟩)),(1,scr),(2,.pointer (some ⟨cB,0,none⟩)),(5,.bool true),(6,.pointer (some ⟨kb.bk,0,none⟩)),(48,.bool false)] a)=>?_)
 have e49:=hA.get (t:=49) rfl
 refine lw_call (vs:=#[.pointer (some ⟨kb.bk,0,none⟩)]) hA rfl rfl (by decide) rfl rfl (by decide) Tryd.func16 rfl rfl (by simp only [List.map_toArray,List.map_cons,List.map_nil,e49]) (fun fr cs d=>must_lnew (hco 0) fr cs d) (fun u w' hR a hA=>?_)
 obtain ⟨hG2,b,rfl,gu,hlm⟩:=hR
 replace hA:Lvs 211 [(50,.pointer (some ⟨b.bl,0,none⟩)),(49,.pointer (some ⟨kb.bk,0,none⟩)),(1,scr),(2,.pointer (some ⟨cB,0,none⟩)),(5,.bool true),(6,.pointer (some ⟨kb.bk,0,none⟩)),(48,.bool false)] a:=hA
 refine lw_val (v:=.pointer (some ⟨b.bl,0,none⟩)) hA rfl (wanted_none rfl) (by decide) (by kernel_rfl) rfl (by decide) (fun d=>run_assign rfl (hA.get rfl)) (fun a (hA:Lvs 211 [(8,.pointer (some ⟨b.bl,0,none⟩)),(50,.pointer (some ⟨b.bl,0,none⟩)),(49,.pointer (some ⟨kb.bk,0,none⟩)),(1,scr),(2,.pointer (some ⟨cB,0,none⟩)),(5,.bool true),(6,.pointer (some ⟨kb.bk,0,none⟩)),(48,.bool false)] a)=>?_)
 refine Br.liv_region_end ?_
 replace hA:Lvs 211 [(1,scr),(2,.pointer (some ⟨cB,0,none⟩)),(5,.bool true),(6,.pointer (some ⟨kb.bk,0,none⟩)),(8,.pointer (some ⟨b.bl,0,none⟩))] a:=hA.sub (fun p hp=>by
  simp only [List.mem_cons,List.not_mem_nil,or_false] at hp
  rcases hp with rfl|rfl|rfl|rfl|rfl<;>rfl)
 refine Br.liv_seq ?_
 refine Br.liv_seq ?_
 refine lw_region (n:=7) (m:=0) (il:=[0,1]) (by kernel_rfl) ?_
 refine lw_val (v:=.pointer (some ⟨b.bl,0,none⟩)) hA rfl (wanted_none rfl) (by decide) (by kernel_rfl) rfl (by decide) (fun d=>run_move rfl (hA.get rfl)) (fun a (hA:Lvs 211 [(51,.pointer (some ⟨b.bl,0,none⟩)),(1,scr),(2,.pointer (some ⟨cB,0,none⟩)),(5,.bool true),(6,.pointer (some ⟨kb.bk,0,none⟩)),(8,.pointer (some ⟨b.bl,0,none⟩))] a)=>?_)
 obtain ⟨o,ho,hop,hd,hg⟩:∃ o,(cnOps 7)[1]?=some o∧o.op=.binOp .eql 58 (.tmp 51) (.const (.pointer none)) 58∧o.dst=some 52∧o.guard=none:=⟨_,rfl,rfl,rfl,rfl⟩
 have e51:=hA.get (t:=51) rfl
 refine lw_val (v:=.bool false) hA ho (wanted_none hg) (by decide) (by rw [hop];rfl) hd (by decide) (fun d=>by unfold execOp;simp only [hop,e51];go_simp) (fun a (hA:Lvs 211 [(52,.bool false),(51,.pointer (some ⟨b.bl,0,none⟩)),(1,scr),(2,.pointer (some ⟨cB,0,none⟩)),(5,.bool true),(6,.pointer (some ⟨kb.bk,0,none⟩)),(8,.pointer (some ⟨b.bl,0,none⟩))] a)=>?_)
 clear ho hop hd hg e51
 refine Br.liv_region_end ?_
 replace hA:Lvs 211 [(1,scr),(2,.pointer (some ⟨cB,0,none⟩)),(5,.bool true),(6,.pointer (some ⟨kb.bk,0,none⟩)),(8,.pointer (some ⟨b.bl,0,none⟩)),(52,.bool false)] a:=hA.sub (fun p hp=>by
  simp only [List.mem_cons,List.not_mem_nil,or_false] at hp
  rcases hp with rfl|rfl|rfl|rfl|rfl|rfl<;>rfl)
 refine Br.liv_cond (t:=false) (hA.get rfl) ?_
 refine Br.liv_skip ?_
 refine Br.liv_seq ?_
 refine Br.liv_seq ?_
 refine lw_region (n:=9) (m:=0) (il:=[0]) (by kernel_rfl) ?_
 refine lw_val (v:=.int .i64 0) hA rfl (wanted_none rfl) (by decide) (by kernel_rfl) rfl (by decide) (fun d=>run_assign rfl rfl) (fun a (hA:Lvs 211 [(9,.int .i64 0),(1,scr),(2,.pointer (some ⟨cB,0,none⟩)),(5,.bool true),(6,.pointer (some ⟨kb.bk,0,none⟩)),(8,.pointer (some ⟨b.bl,0,none⟩)),(52,.bool false)] a)=>?_)
 refine Br.liv_region_end ?_
 replace hA:Lvs 211 [(1,scr),(2,.pointer (some ⟨cB,0,none⟩)),(5,.bool true),(6,.pointer (some ⟨kb.bk,0,none⟩)),(8,.pointer (some ⟨b.bl,0,none⟩)),(9,.int .i64 0)] a:=hA.sub (fun p hp=>by
  simp only [List.mem_cons,List.not_mem_nil,or_false] at hp
  rcases hp with rfl|rfl|rfl|rfl|rfl|rfl<;>rfl)
 exact hn a _ kb b (hG.trans hG2) g1 g2 g3 g4 (fun r=>(hco r).grown hG2) hlm ⟨Nat.le_trans hG.size gu.1,Nat.le_trans hG.size gu.2⟩ hA
end Go.Proofs.YtcgabodkegcpgaaDoor
