/- The kernel's Call at Map, Pipe, Write, Read, Load, Store, at whatever numbers; and what works does: it answers true. -/
import Derived.Test.YtcgabodkegcpgaaDoorNew2
import Derived.Test.YtcgabodkegcpgaaDoorNwl
import Derived.Test.YtcgabodkegcpgaaDoorInv2
import Derived.Test.YtcgabodkegcpgaaDoorCall
namespace Go.Proofs.YtcgabodkegcpgaaDoor
open Go.RowKit
set_option linter.unusedVariables false
set_option maxHeartbeats 20000000
def wK1:Ker:=(kMap (kNew 4 2 1) 0 1 2).K
def wK2:Ker:=(kStore wK1 0 1 3 9).K
theorem wE1:kCall (kNew 4 2 1) 0 2 1 2 0=⟨wK1,0,0⟩:=rfl
theorem wE2:kCall wK1 0 19 1 3 9=⟨wK2,0,0⟩:=rfl
theorem wE3:kCall wK2 0 18 1 3 0=⟨wK2,9,0⟩:=rfl
theorem wE4:kCall wK2 0 2 0 2 0=⟨wK2,0,5⟩:=rfl
theorem wG0:Good (kNew 4 2 1):=good_new 4 2 1 (by omega)
theorem wG1:Good wK1:=good_map wG0 (by omega) (by show 2<4;omega)
theorem wG2:Good wK2:=good_store wG1 0 1 3 9
theorem works_any (w:World)(T:Tab w):Calls Tryd.prog 9 #[] w fun e w'=>e=.returned (.bool true)∧Below w.heap.size w w':=by
 have HT:Hid (Tab w):=T
 clear T
 go_enter Tryd.func9,Tryd.ntmps9
 go_wp2_with fail
 refine (new_any 4 2 1 (by omega) (by omega) (by omega) (by omega) (by omega) _).mono ?_
 rintro e w1 ⟨bk,bf,bs,bd,rfl,R1,b1,g1,g2,g3,g4⟩
 have p0:=HT.out.lt
 have HT1:Hid (Tab w1):=HT.out.same (b1.block 0 p0)
 have HR1:Hid _:=R1
 have Hb1:Hid _:=b1
 have Hg:Hid (w.heap.size≤bf∧w.heap.size≤bs∧w.heap.size≤bd∧0<w.heap.size):=⟨g2,g3,g4,p0⟩
 clear R1 b1 g1 g2 g3 g4 p0
 go_wp2_with fail
 refine (call_six HR1.out HT1.out wG0 0 2 1 2 0 (by unfold Six;omega) wE1).mono ?_
 rintro e w2 ⟨rfl,R2,k2⟩
 have HT2:Hid (Tab w2):=HT1.out.keeps k2 (by have:=Hg.out;omega) (by have:=Hg.out;omega) (by have:=Hg.out;omega)
 have HR2:Hid _:=R2
 have Hk2:Hid _:=k2
 clear R2 k2
 go_wp2_with fail
 refine (call_six HR2.out HT2.out wG1 0 19 1 3 9 (by unfold Six;omega) wE2).mono ?_
 rintro e w3 ⟨rfl,R3,k3⟩
 have HT3:Hid (Tab w3):=HT2.out.keeps k3 (by have:=Hg.out;omega) (by have:=Hg.out;omega) (by have:=Hg.out;omega)
 have HR3:Hid _:=R3
 have Hk3:Hid _:=k3
 clear R3 k3
 go_wp2_with fail
 refine (call_six HR3.out HT3.out wG2 0 18 1 3 0 (by unfold Six;omega) wE3).mono ?_
 rintro e w4 ⟨rfl,R4,k4⟩
 have HT4:Hid (Tab w4):=HT3.out.keeps k4 (by have:=Hg.out;omega) (by have:=Hg.out;omega) (by have:=Hg.out;omega)
 have HR4:Hid _:=R4
 have Hk4:Hid _:=k4
 clear R4 k4
 go_wp2_with fail
 refine (call_six HR4.out HT4.out wG2 0 2 0 2 0 (by unfold Six;omega) wE4).mono ?_
 rintro e w5 ⟨rfl,R5,k5⟩
 have HT5:Hid (Tab w5):=HT4.out.keeps k5 (by have:=Hg.out;omega) (by have:=Hg.out;omega) (by have:=Hg.out;omega)
 have HR5:Hid _:=R5
 have Hk5:Hid _:=k5
 clear R5 k5
 go_wp2
 go_ret
 have g:=Hg.out
 have z1:=Hb1.out.size
 exact ⟨rfl,Hb1.out.trans ((((Hk2.out.trans Hk3.out).trans Hk4.out).trans Hk5.out).below z1 g.1 g.2.1 g.2.2.1)⟩
end Go.Proofs.YtcgabodkegcpgaaDoor
namespace Go.Proofs.YtcgabodkegcpgaaDoor
open Go.Conc Go.RowKit
open Br (X OpD KO SO SP sfO Lk Fit Must DL Liv Clear)
set_option linter.unusedVariables false
set_option linter.unusedSimpArgs false
set_option maxHeartbeats 20000000
theorem sf_nil (i:Nat):sfO [] i=0:=Br.sfO_zero fun o ho=>by cases ho
theorem fit_nil (w:World):Fit (sfO []) w:=⟨fun i hi=>absurd (sf_nil i) hi,trivial⟩
theorem ko_nil (w:World):KO [] w:=fun o ho=>by cases ho
theorem must_works {w:World}(T:Tab w)(fr:Frame)(cs:List Frame)(d:Nat) :
  Must Tryd.prog true (DL true (sfO [])) (fun g w'=>∃ x,g=G (fr.finish x) cs∧Grown w w'∧x=.bool true) (G (Frame.enter Tryd.prog 9 #[] .normal) (fr::cs)) (w.at d) :=
 must_below (fit_nil w) (ko_nil w) true (by kernel_rfl) (R:=fun x _=>x=.bool true) (fun v hv=>(works_any v (tab_to hv (T.same (w':=w.at d) rfl))).mono fun e v' he=>by
  obtain ⟨rfl,h⟩:=he
  exact ⟨_,rfl,h,rfl⟩) (fun x v' w' _ _ h=>h) fr cs
theorem must_settings {w:World}{x y z:Int}(hx:-9223372036854775808≤x∧x<9223372036854775808)(hy:-9223372036854775808≤y∧y<9223372036854775808)(hz:-9223372036854775808≤z∧z<9223372036854775808)(fr:Frame)(cs:List Frame)(d:Nat) :
  Must Tryd.prog true (DL true (sfO [])) (fun g w'=>∃ u,g=G (fr.finish u) cs∧Grown w w'∧u=.agg #[.int .i64 ((2+pickN x 31:Nat):Int),.int .i64 ((1+pickN y 6:Nat):Int),.int .i64 (pickN z 5:Nat)]) (G (Frame.enter Tryd.prog 12 #[.agg #[.int .i64 x,.int .i64 y,.int .i64 z]] .normal) (fr::cs)) (w.at d) :=
 must_below (fit_nil w) (ko_nil w) true (by kernel_rfl) (R:=fun u _=>u=.agg #[.int .i64 ((2+pickN x 31:Nat):Int),.int .i64 ((1+pickN y 6:Nat):Int),.int .i64 (pickN z 5:Nat)]) (fun v hv=>(settings_any x y z hx hy hz v).mono fun e v' he=>by
  obtain ⟨rfl,h⟩:=he
  exact ⟨_,rfl,h,rfl⟩) (fun x v' w' _ _ h=>h) fr cs
theorem co_first {kb:Kb}{K:Ker}{w:World}(hR:Rep w kb.bk kb.bf kb.bs kb.bd K)(hT:Tab w)(hI:Invb K)(h0:0≠kb.bf∧0≠kb.bs∧0≠kb.bd)(r:Nat):Co kb [] K (fun _=>none) r (fun _=>none) 1 w :=
 ⟨⟨hR,hT,hI,fit_nil w,ko_nil w,fun o ho=>by cases ho⟩,h0,fun g v h=>(by cases h),fun g v h=>(by cases h),fun g v h=>(by cases h),fun g v h=>(by cases h),fun g v h=>(by cases h),fun g _ _=>rfl,fun s c h=>(by cases h),fun g v h=>(by cases h),fun g v h=>(by cases h),fun g v g' v' h=>(by cases h),fun g v g' v' h=>(by cases h)⟩
theorem must_knew {w:World}(T:Tab w)(nF nS nD:Nat)(h1:2≤nF)(h2:nF≤32)(h3:1≤nS)(h4:nS≤6)(h5:nD≤4)(fr:Frame)(cs:List Frame)(d:Nat) :
  Must Tryd.prog true (DL true (sfO [])) (fun g w'=>∃ kb:Kb,g=G (fr.finish (.tuple #[.pointer (some ⟨kb.bk,0,none⟩),.int .i64 0])) cs∧Grown w w'∧w.heap.size≤kb.bk∧w.heap.size≤kb.bf∧w.heap.size≤kb.bs∧w.heap.size≤kb.bd∧∀ r,Co kb [] (kNew nF nS nD) (fun _=>none) r (fun _=>none) 1 w')
   (G (Frame.enter Tryd.prog 10 #[.agg #[.int .i64 nF,.int .i64 nS,.int .i64 nD]] .normal) (fr::cs)) (w.at d):=by
 refine (Br.must_calls Br.rules (sft:=sfO []) (w0:=w.at d) (by kernel_rfl) (fit_nil _) true (Q:=fun x v'=>∃ v bk bf bs bd,Lk (sfO []) v (w.at d)∧x=.tuple #[.pointer (some ⟨bk,0,none⟩),.int .i64 0]∧Rep v' bk bf bs bd (kNew nF nS nD)∧Below v.heap.size v v'∧w.heap.size≤bk∧w.heap.size≤bf∧w.heap.size≤bs∧w.heap.size≤bd) (fun v hv=>(new_any nF nS nD h1 h2 h3 h4 h5 v).mono fun e v' he=>by
   obtain ⟨bk,bf,bs,bd,rfl,a1,a2,a3,a4,a5,a6⟩:=he
   have sv:v.heap.size=w.heap.size:=hv.size
   rw [sv] at a3 a4 a5 a6
   exact ⟨v,bk,bf,bs,bd,hv,rfl,a1,a2,a3,a4,a5,a6⟩) fr cs).keep.mono (fun _ _ _ h=>h) ?_
 rintro g w' ⟨⟨x,v',rfl,hl',v,bk,bf,bs,bd,hv,rfl,a1,a2,a3,a4,a5,a6⟩,hkp⟩
 have e1:v.heap.size=w.heap.size:=hv.size
 have e2:v'.heap.size=w'.heap.size:=hl'.size
 have hG:Grown w w':=⟨by have:=a2.size;omega,fun k hk=>same_block (w:=w.at d) hkp hv hl' (a2.block k (by omega)),trivial⟩
 have l0:0<w.heap.size:=T.lt
 exact ⟨⟨bk,bf,bs,bd⟩,rfl,hG,a3,a4,a5,a6,fun r=>co_first (kb:=⟨bk,bf,bs,bd⟩) (rep_back hl' (sf_nil _) (sf_nil _) (sf_nil _) a1) (T.same (hG.old 0 l0)) (invb_new nF nS nD h1 h3 h4) ⟨by simp only;omega,by simp only;omega,by simp only;omega⟩ r⟩
section
variable {l:List OpD} {main:Bool} {sft:Nat→Nat} {Stop:Goroutine→World→Prop} {b:Frame} {a:Act} {ops:Array Oper} {i:Nat} {o:Oper} {rest:List Nat} {k:List Item} {cs:List Frame} {w:World} {v:Value}
theorem fin_at (ho:ops[i]?=some o)(x:Value):(b.at a (.inRegion ops (i::rest)::k)).finish x=b.at (a.put o.dst x) (.inRegion ops rest::k):=by rw [Frame.finish_at,ho];rfl
theorem lv_call {f:FuncId}{fn:Func}{c:Code}{args:Array Operand}{ats:Array TypeId}{vs:Array Value}{R:Value→World→Prop}(ho:ops[i]?=some o)(hg:o.guard=none)(hk:b.kind≠.early)(hop:o.op=.call { callee:=.value (.func f),args,argTypes:=ats })
  (hf:Tryd.prog.funcs[f]?=some fn)(hname:(fn.name == "runtime.NumGoroutine")=false)(hb:fn.body=some c)(hargs:args.map a.eval=vs)
  (hm:∀ fr cs d,Must Tryd.prog main (DL true sft) (fun g w'=>∃ x,g=G (fr.finish x) cs∧R x w') (G (Frame.enter Tryd.prog f vs .normal) (fr::cs)) (w.at d))
  (hn:∀ x w',R x w'→Liv Tryd.prog main true sft Stop (G (b.at (a.put o.dst x) (.inRegion ops rest::k)) cs) w'):Liv Tryd.prog main true sft Stop (G (b.at a (.inRegion ops (i::rest)::k)) cs) w:=by
 refine Br.liv_call ho (wanted_none hg) hk hop hf hname hb ?_
 rw [hargs]
 refine Br.liv_of (fun d=>hm _ _ d) ?_
 rintro g' w' ⟨x,rfl,hR⟩
 rw [fin_at ho]
 exact hn x w' hR
theorem lv_enter {f:FuncId}{fn:Func}{c:Code}{args:Array Operand}{ats:Array TypeId}{vs:Array Value}(ho:ops[i]?=some o)(hg:o.guard=none)(hk:b.kind≠.early)(hop:o.op=.call { callee:=.value (.func f),args,argTypes:=ats })
  (hf:Tryd.prog.funcs[f]?=some fn)(hname:(fn.name == "runtime.NumGoroutine")=false)(hb:fn.body=some c)(hargs:args.map a.eval=vs)
  (hn:∀ d,Stop (G (Frame.enter Tryd.prog f vs .normal) (b.at a (.inRegion ops (i::rest)::k)::cs)) (w.at d)):Liv Tryd.prog main true sft Stop (G (b.at a (.inRegion ops (i::rest)::k)) cs) w:=by
 refine Br.liv_call ho (wanted_none hg) hk hop hf hname hb ?_
 rw [hargs]
 exact fun d=>.stop (hn d)
theorem x_liv {Final:Machine→Trace→Prop}{Inb:Nat→Option Seat}{nG:Nat}{g:Goroutine}(h:Liv Tryd.prog true true (sfO l) (X Tryd.prog Final l Inb nG 0) g w):X Tryd.prog Final l Inb nG 0 g w:=Br.x_must (st:=true) (h w.drawn)
end
def regionOf (n:Nat):Code→Option (Array Oper)
 | .region m ops _=>if m=n then some ops else none
 | .seq x y=>(regionOf n x).or (regionOf n y)
 | .cond _ x y=>(regionOf n x).or (regionOf n y)
 | .block _ x=>regionOf n x
 | .loop x=>regionOf n x
 | _=>none
section
variable {sz:Nat} {env:List (Nat × Value)} {l:List OpD} {main:Bool} {sft:Nat→Nat} {Stop:Goroutine→World→Prop} {b:Frame} {a:Act} {ops:Array Oper} {i D:Nat} {o:Oper} {rest:List Nat} {k:List Item} {cs:List Frame} {w:World} {v:Value}
theorem lw_val (hA:Lvs sz env a)(ho:ops[i]?=some o)(hw:Region.wanted o (yielded ops a.tmps)=true)(hk:b.kind≠.early)(hop:Br.okOp Tryd.prog (fun _=>false) [] false o.op=true)(hd:o.dst=some D)(hD:D<sz)(hv:∀ d,(execOp a.eval o).run Tryd.prog (w.at d)=.ok (.value v) (w.at d))
  (h:∀ a',Lvs sz ((D,v)::env.filter (fun p=>p.1 != D)) a'→Liv Tryd.prog main true sft Stop (G (b.at a' (.inRegion ops rest::k)) cs) w):Liv Tryd.prog main true sft Stop (G (b.at a (.inRegion ops (i::rest)::k)) cs) w :=
 lv_val ho hw hk hop hv (h _ (by rw [hd];exact hA.put hD v))
theorem lw_skip (hA:Lvs sz env a)(ho:ops[i]?=some o)(hw:Region.wanted o (yielded ops a.tmps)=false)(hd:o.dst=some D)(hD:D<sz)
  (h:∀ a',Lvs sz ((D,undef)::env.filter (fun p=>p.1 != D)) a'→Liv Tryd.prog main true sft Stop (G (b.at a' (.inRegion ops rest::k)) cs) w):Liv Tryd.prog main true sft Stop (G (b.at a (.inRegion ops (i::rest)::k)) cs) w :=
 Br.liv_unwanted ho hw (h _ (by rw [hd];exact hA.put hD undef))
theorem lw_made {ob:Obj}(hA:Lvs sz env a)(ho:ops[i]?=some o)(hg:o.guard=none)(hk:b.kind≠.early)(hd:o.dst=some D)(hD:D<sz)(hv:∀ d,(execOp a.eval o).run Tryd.prog (w.at d)=.ok (.value v) ((w.at d).alloc ob))(he:∀ d,(execOp a.eval o).events Tryd.prog (w.at d) #[]=#[])(hs:Br.Obj.sight ob)
  (h:∀ a',Lvs sz ((D,v)::env.filter (fun p=>p.1 != D)) a'→Liv Tryd.prog main true sft Stop (G (b.at a' (.inRegion ops rest::k)) cs) (w.alloc ob)):Liv Tryd.prog main true sft Stop (G (b.at a (.inRegion ops (i::rest)::k)) cs) w :=
 lv_made ho hg hk hv he hs (h _ (by rw [hd];exact hA.put hD v))
theorem lw_call {f:FuncId}{fn:Func}{c:Code}{args:Array Operand}{ats:Array TypeId}{vs:Array Value}{R:Value→World→Prop}(hA:Lvs sz env a)(ho:ops[i]?=some o)(hg:o.guard=none)(hk:b.kind≠.early)(hop:o.op=.call { callee:=.value (.func f),args,argTypes:=ats })(hd:o.dst=some D)(hD:D<sz)
  (hf:Tryd.prog.funcs[f]?=some fn)(hname:(fn.name == "runtime.NumGoroutine")=false)(hb:fn.body=some c)(hargs:args.map a.eval=vs)
  (hm:∀ fr cs d,Must Tryd.prog main (DL true sft) (fun g w'=>∃ x,g=G (fr.finish x) cs∧R x w') (G (Frame.enter Tryd.prog f vs .normal) (fr::cs)) (w.at d))
  (hn:∀ x w',R x w'→∀ a',Lvs sz ((D,x)::env.filter (fun p=>p.1 != D)) a'→Liv Tryd.prog main true sft Stop (G (b.at a' (.inRegion ops rest::k)) cs) w'):Liv Tryd.prog main true sft Stop (G (b.at a (.inRegion ops (i::rest)::k)) cs) w :=
 lv_call ho hg hk hop hf hname hb hargs hm fun x w' hR=>hn x w' hR _ (by rw [hd];exact hA.put hD x)
end
theorem lw_skipped {sz:Nat}{env:List (Nat × Value)}{main:Bool}{sft:Nat→Nat}{Stop:Goroutine→World→Prop}{b:Frame}{a:Act}{ops:Array Oper}{i:Nat}{o:Oper}{rest:List Nat}{k:List Item}{cs:List Frame}{w:World}{R:World→World→Prop}(hA:Lvs sz env a)(ho:ops[i]?=some o)(hg:o.guard=none)(hk:b.kind≠.early)(hop:Br.okOp Tryd.prog (fun _=>false) [] true o.op=true)(hd:o.dst=none)(hft:Fit sft w)
  (hv:∀ d v,Lk sft v (w.at d)→∃ v',(execOp a.eval o).run Tryd.prog v=.ok .skip v'∧R v v')
  (h:∀ d w' v v',Lk sft v (w.at d)→Lk sft v' w'→Br.Kept sft (w.at d) w'→R v v'→Liv Tryd.prog main true sft Stop (G (b.at a (.inRegion ops rest::k)) cs) w') :
  Liv Tryd.prog main true sft Stop (G (b.at a (.inRegion ops (i::rest)::k)) cs) w :=
 lv_lone ho hg hk hop (.inl rfl) hft hv fun d w' v v' h1 h2 h3 h4=>by rw [hd];exact h d w' v v' h1 h2 h3 h4
theorem must_knewX {w:World}(T:Tab w)(nF nS nD:Nat)(h1:2≤nF)(h2:nF≤32)(h3:1≤nS)(h4:nS≤6)(h5:nD≤4)(fr:Frame)(cs:List Frame)(d:Nat) :
  Must Tryd.prog true (DL true (sfO [])) (fun g w'=>∃ x,g=G (fr.finish x) cs∧∃ kb:Kb,x=.tuple #[.pointer (some ⟨kb.bk,0,none⟩),.int .i64 0]∧Grown w w'∧w.heap.size≤kb.bk∧w.heap.size≤kb.bf∧w.heap.size≤kb.bs∧w.heap.size≤kb.bd∧∀ r,Co kb [] (kNew nF nS nD) (fun _=>none) r (fun _=>none) 1 w')
   (G (Frame.enter Tryd.prog 10 #[.agg #[.int .i64 nF,.int .i64 nS,.int .i64 nD]] .normal) (fr::cs)) (w.at d) :=
 (must_knew T nF nS nD h1 h2 h3 h4 h5 fr cs d).mono (fun _ _ _ h=>h) fun g w' ⟨kb,h,h'⟩=>⟨_,h,kb,rfl,h'⟩
structure CI (w0:World) (kb:Kb) (b:Lb) (n i:Nat) (l:List OpD) (K:Ker) (L:Nat→Option Lv) (r:Nat) (Inb:Nat→Option Seat) (nG:Nat) (w:World) (U:Nat→Option OpD) (V:Nat→Value) (N:Nat→Nat) (Xs:Nat→List Value):Prop where
 co:Co kb l K L r Inb nG w
 hn:K.nS=n
 lm:LibM kb l L w b n (b.bl+1) U V N Xs
 g0:0<nG
 u1:∀ p q o,p<n→q<n→U p=some o→U q=some o→p=q
 all:∀ g v,L g=some v→∃ p,p<n∧U p=some v.C.o
 nb:∀ p,p<n→N p≤i
 ints:∀ p,p<n→∀ x∈Xs p,∃ z,x=.int .i64 z
 old:∀ k,k<w0.heap.size→Mn kb L w k∧w.heap[k]?=w0.heap[k]?
 far:w0.heap.size≤b.bl∧w0.heap.size≤b.bu∧w0.heap.size≤b.bn
section
variable {w0:World} {kb:Kb} {b:Lb} {n i:Nat} {l:List OpD} {K:Ker} {L:Nat→Option Lv} {r:Nat} {Inb:Nat→Option Seat} {nG:Nat} {w w':World} {U:Nat→Option OpD} {V:Nat→Value} {N:Nat→Nat} {Xs:Nat→List Value}
theorem CI.grown (h:CI w0 kb b n i l K L r Inb nG w U V N Xs)(g:Grown w w'):CI w0 kb b n i l K L r Inb nG w' U V N Xs :=
 ⟨h.co.grown g,h.hn,h.lm.grown g,h.g0,h.u1,h.all,h.nb,h.ints,fun k hk=>⟨(h.old k hk).1.grow g.size,(g.old k (h.old k hk).1.lt).trans (h.old k hk).2⟩,h.far⟩
theorem CI.more (h:CI w0 kb b n i l K L r Inb nG w U V N Xs){j:Nat}(hj:i≤j):CI w0 kb b n j l K L r Inb nG w U V N Xs :=
 ⟨h.co,h.hn,h.lm,h.g0,h.u1,h.all,fun p hp=>Nat.le_trans (h.nb p hp) hj,h.ints,h.old,h.far⟩
theorem CI.less (h:CI w0 kb b n i l K L r Inb nG w U V N Xs){r':Nat}(hr:r'≤r):CI w0 kb b n i l K L r' Inb nG w U V N Xs :=
 ⟨⟨h.co.env,h.co.top,h.co.gid,h.co.onk,h.co.at_,fun g v hv=>(h.co.wait g v hv).imp fun m hm=>⟨Nat.le_trans hr hm.1,hm.2⟩,h.co.seat,h.co.none,h.co.main0,h.co.chan,h.co.chne,h.co.pvch,h.co.apart⟩,h.hn,h.lm,h.g0,h.u1,h.all,h.nb,h.ints,h.old,h.far⟩
theorem CI.call (h:CI w0 kb b n i l K L r Inb nG w U V N Xs){K':Ker}(co:Co kb l K' L r Inb nG w')(hS:K'.nS=K.nS)(hk:Kp kb L w L w'):CI w0 kb b n i l K' L r Inb nG w' U V N Xs :=
 ⟨co,hS.trans h.hn,h.lm.same hk,h.g0,h.u1,h.all,h.nb,h.ints,fun k hlt=>⟨(hk k (h.old k hlt).1).1,(hk k (h.old k hlt).1).2.trans (h.old k hlt).2⟩,h.far⟩
theorem CI.begun (h:CI w0 kb b n i l K L r Inb nG w U V N Xs){p:Nat}(hp:p<n)(hU:U p=none){C:Ctx}{S:Ker→Strat}{pv:List Nat}{H:Heap}{cs:List Frame}{Inb':Nat→Option Seat}(hg:C.o.gid=nG)
  (co:Co kb (C.o::l) K (ConcN.upd L nG (some ⟨C,S,pv,H,cs⟩)) r Inb' (nG+1) w')(hk:∀ k,Mn kb L w k→k≠b.bu→Mn kb (ConcN.upd L nG (some ⟨C,S,pv,H,cs⟩)) w' k∧w'.heap[k]?=w.heap[k]?)
  (lm:LibM kb (C.o::l) (ConcN.upd L nG (some ⟨C,S,pv,H,cs⟩)) w' b n (b.bl+1) (setO U p C.o) V N Xs):CI w0 kb b n i (C.o::l) K (ConcN.upd L nG (some ⟨C,S,pv,H,cs⟩)) r Inb' (nG+1) w' (setO U p C.o) V N Xs:=by
 have lt:∀ q o,q<n→U q=some o→o.gid<nG:=fun q o hq ho=>by
  obtain ⟨v,h1,h2,_⟩:=h.lm.live q hq o ho
  exact (h.co.gid _ v h1).2.2
 refine ⟨co,h.hn,lm,by omega,fun q q' o hq hq' e e'=>?_,fun g v hv=>?_,h.nb,h.ints,fun k hlt=>?_,h.far⟩
 ·unfold setO at e e'
  split at e<;>split at e'
  ·omega
  ·obtain rfl:=Option.some.inj e;have:=lt q' _ hq' e';omega
  ·obtain rfl:=Option.some.inj e';have:=lt q _ hq e;omega
  ·exact h.u1 q q' o hq hq' e e'
 ·by_cases eg:g=nG
  ·subst eg
   rw [ConcN.upd_same] at hv
   obtain rfl:=Option.some.inj hv
   exact ⟨p,hp,by simp [setO]⟩
  ·rw [ConcN.upd_ne _ _ eg] at hv
   obtain ⟨q,hq,e⟩:=h.all g v hv
   exact ⟨q,hq,by unfold setO;rw [if_neg (fun x=>by subst x;rw [hU] at e;cases e)];exact e⟩
 ·obtain ⟨m1,m2⟩:=hk k (h.old k hlt).1 (by have:=h.far.2.1;omega)
  exact ⟨m1,m2.trans (h.old k hlt).2⟩
theorem CI.goes (h:CI w0 kb b n i l K L (r+1) Inb nG w U V N Xs){v v':Lv}(hv:L v.C.o.gid=some v)(hC:v'.C=v.C){K':Ker}{Inb':Nat→Option Seat}
  (co:Co kb l K' (ConcN.upd L v.C.o.gid (some v')) r Inb' nG w')(hS:K'.nS=K.nS)(hk:Kp kb L w (ConcN.upd L v.C.o.gid (some v')) w')(lm:LibM kb l (ConcN.upd L v.C.o.gid (some v')) w' b n (b.bl+1) U V N Xs) :
  CI w0 kb b n i l K' (ConcN.upd L v.C.o.gid (some v')) r Inb' nG w' U V N Xs:=by
 refine ⟨co,hS.trans h.hn,lm,h.g0,h.u1,fun g u hu=>?_,h.nb,h.ints,fun k hlt=>?_,h.far⟩
 ·by_cases eg:g=v.C.o.gid
  ·subst eg
   rw [ConcN.upd_same] at hu
   obtain rfl:=Option.some.inj hu
   rw [hC]
   exact h.all _ v hv
  ·rw [ConcN.upd_ne _ _ eg] at hu
   exact h.all g u hu
 ·obtain ⟨m1,m2⟩:=hk k (h.old k hlt).1
  exact ⟨m1,m2.trans (h.old k hlt).2⟩
theorem CI.over (h:CI w0 kb b n i l K L (r+1) Inb nG w U V N Xs){p:Nat}(hp:p<n){v:Lv}(hU:U p=some v.C.o)(hv:L v.C.o.gid=some v){K':Ker}{Inb':Nat→Option Seat}{g cap:Nat}{err val:Int}
  (co:Co kb l K' (ConcN.upd L v.C.o.gid none) r Inb' nG w')(hS:K'.nS=K.nS)(hk:∀ k,Mn kb L w k→¬ LibEx b V p k→Mn kb (ConcN.upd L v.C.o.gid none) w' k∧w'.heap[k]?=w.heap[k]?)
  (lm:LibM kb l (ConcN.upd L v.C.o.gid none) w' b n (b.bl+1) (setU U p) (setV V p (.slice (some ⟨g,0,none⟩) (N p+1) cap)) (setV N p (N p+1)) (setV Xs p (Xs p ++ ent v.C.kd v.C.A v.C.B err val))) :
  CI w0 kb b n (i+1) l K' (ConcN.upd L v.C.o.gid none) r Inb' nG w' (setU U p) (setV V p (.slice (some ⟨g,0,none⟩) (N p+1) cap)) (setV N p (N p+1)) (setV Xs p (Xs p ++ ent v.C.kd v.C.A v.C.B err val)):=by
 refine ⟨co,hS.trans h.hn,lm,h.g0,fun q q' o hq hq' e e'=>?_,fun g' u hu=>?_,fun q hq=>?_,fun q hq x hx=>?_,fun k hlt=>?_,h.far⟩
 ·unfold setU at e e'
  split at e
  ·cases e
  ·split at e'
   ·cases e'
   ·exact h.u1 q q' o hq hq' e e'
 ·by_cases eg:g'=v.C.o.gid
  ·subst eg;rw [ConcN.upd_same] at hu;cases hu
  ·rw [ConcN.upd_ne _ _ eg] at hu
   obtain ⟨q,hq,e⟩:=h.all g' u hu
   refine ⟨q,hq,?_⟩
   unfold setU
   rw [if_neg (fun x=>?_)]
   ·exact e
   ·subst x
    rw [hU] at e
    have e2:=Option.some.inj e
    have:=(h.co.gid g' u hu).1
    rw [← this,e2] at eg
    exact eg rfl
 ·unfold setV
  split
  ·have:=h.nb p hp;omega
  ·have:=h.nb q hq;omega
 ·unfold setV at hx
  split at hx
  ·rcases List.mem_append.1 hx with hx|hx
   ·exact h.ints p hp x hx
   ·simp only [ent,List.mem_cons,List.not_mem_nil,or_false] at hx
    rcases hx with rfl|rfl|rfl|rfl|rfl<;>exact ⟨_,rfl⟩
  ·exact h.ints q hq x hx
 ·obtain ⟨m1,m2⟩:=hk k (h.old k hlt).1 (fun e=>by
   obtain ⟨f1,f2,f3⟩:=h.far
   rcases e with e|e|e
   ·omega
   ·omega
   ·have:=(owns_lt (h.lm.m.is.own p hp) e).1
    omega)
  exact ⟨m1,m2.trans (h.old k hlt).2⟩
theorem CI.cancelled (h:CI w0 kb b n i l K L r Inb nG w U V N Xs){L':Nat→Option Lv}{Inb':Nat→Option Seat}(co:Co kb l K L' r Inb' nG w')(lm:LibM kb l L' w' b n (b.bl+1) (fun _=>none) V N Xs)
  (hk:∀ k,Mn kb L w k→k≠b.bu→Mn kb L' w' k∧w'.heap[k]?=w.heap[k]?)(hL:∀ g v,L' g=some v→L g=some v∧∀ p,p<n→U p≠some v.C.o) :
  CI w0 kb b n i l K L' r Inb' nG w' (fun _=>none) V N Xs∧∀ g,L' g=none:=by
 have hN:∀ g,L' g=none:=fun g=>by
  cases e:L' g with
  | none=>rfl
  | some v =>
   obtain ⟨h1,h2⟩:=hL g v e
   obtain ⟨p,hp,hU⟩:=h.all g v h1
   exact (h2 p hp hU).elim
 refine ⟨⟨co,h.hn,lm,h.g0,fun p q o _ _ e=>(by cases e),fun g v hv=>(by rw [hN g] at hv;cases hv),h.nb,h.ints,fun k hlt=>?_,h.far⟩,hN⟩
 obtain ⟨m1,m2⟩:=hk k (h.old k hlt).1 (by have:=h.far.2.1;omega)
 exact ⟨m1,m2.trans (h.old k hlt).2⟩
end
theorem row_eq {w:World}{b t:Nat}{cs:Array Value}{f:Nat→Value}(h:w.rowIs b t cs.size f)(hf:∀ j,j<cs.size→cs[j]?=some (f j)):w.heap[b]?=some (.cells cs t (0,0)):=by
 obtain ⟨c,h1,h2,h3⟩:=h
 have e:c=cs:=Array.ext_getElem? fun i=>by
  rcases Nat.lt_or_ge i cs.size with g|g
  ·rw [h3 i g,hf i g]
  ·rw [Array.getElem?_eq_none (by omega),Array.getElem?_eq_none g]
 rw [h1,e]
theorem setCells_all {w:World}{b t:Nat}{c cs:Array Value}(h:w.heap[b]?=some (.cells c t (0,0)))(hs:c.size=cs.size):(w.setCells b 0 cs.toList).heap[b]?=some (.cells cs t (0,0)):=by
 have hr:w.rowIs b t cs.size (fun j=>c.getD j (.bool false)):=⟨c,h,hs,fun j hj=>by simp [Array.getD_eq_getD_getElem?,hs▸hj]⟩
 refine row_eq (rowIs_setCells cs.toList 0 hr) fun j hj=>?_
 rw [if_pos (by simp;omega),Nat.sub_zero,List.getD_eq_getElem?_getD]
 simp [hj]
theorem lw_storeRow {sz:Nat}{env:List (Nat × Value)}{main:Bool}{sft:Nat→Nat}{Stop:Goroutine→World→Prop}{b:Frame}{a:Act}{ops:Array Oper}{i x y bx t ty:Nat}{o:Oper}{rest:List Nat}{k:List Item}{cs:List Frame}{w:World}{c0 cells:Array Value}(hA:Lvs sz env a)(ho:ops[i]?=some o)(hg:o.guard=none)(hk:b.kind≠.early)(hop:o.op=.store ty (.tmp x) (.tmp y))(hd:o.dst=none)(hft:Fit sft w)
  (ex:a.eval (.tmp x)=.pointer (some ⟨bx,0,none⟩))(ey:a.eval (.tmp y)=.agg cells)(hb:w.heap[bx]?=some (.cells c0 t (0,0)))(hc:c0.size=cells.size)(hi:(Tryd.prog.info? ty).map (·.size)=some cells.size)(h1:cells.all (·.oneCell')=true)(hz:sft bx=0)
  (h:∀ w',w'.heap.size=w.heap.size→(∀ k,k≠bx→w'.heap[k]?=w.heap[k]?)→w'.heap[bx]?=some (.cells cells t (0,0))→Liv Tryd.prog main true sft Stop (G (b.at a (.inRegion ops rest::k)) cs) w') :
  Liv Tryd.prog main true sft Stop (G (b.at a (.inRegion ops (i::rest)::k)) cs) w:=by
 have row:∀ d v,Lk sft v (w.at d)→v.heap[bx]?=some (.cells c0 t (0,0)):=fun d v hv=>by
  rw [lk_same (w:=w.at d) hv hz (.inl ⟨_,_,_,hb⟩)];exact hb
 refine lw_skipped (R:=fun v v'=>v'=v.setCells bx 0 cells.toList) hA ho hg hk (by rw [hop];rfl) hd hft (fun d v hv=>⟨_,?_,rfl⟩) (fun d w2 v v' hv hl' hkp hR=>?_)
 ·have hr:=row d v hv
  have ht:v.there bx 0 cells.size:=rowIs_there (t:=t) (n:=cells.size) (f:=fun j=>c0.getD j (.bool false)) ⟨c0,hr,hc,fun j hj=>by simp [Array.getD_eq_getD_getElem?,hc▸hj]⟩ (by omega)
  unfold execOp
  simp only [hop,ex,ey]
  have:=run_storeAt_mid (P:=Tryd.prog) v bx 0 ty cells ht hi h1
  simp only [Sem.run_bind,this,Result.andThen_ok]
  rfl
 ·subst hR
  have sv:v.heap.size=w.heap.size:=hv.size
  have sv':=hl'.size
  rw [size_setCells] at sv'
  have hv3:=setCells_all (row d v hv) hc
  refine h w2 (by omega) (fun k hne=>?_) ?_
  ·exact same_block (w:=w.at d) hkp hv hl' (heap_setCells hne _ _ _)
  ·rw [← lk_same hl' hz (.inr ⟨_,_,_,hv3⟩)];exact hv3
theorem run_len {P:Program}{o:Oper}{a:Act}{x:Operand}{t e:TypeId}{ad:Option Addr}{n c:Nat}{w:World}(hop:o.op=.call { callee:=.builtin .len,args:=#[x],argTypes:=#[t] })(hu:P.underlying t=some (.slice e))(hx:a.eval x=.slice ad n c):(execOp a.eval o).run P w=.ok (.value (.int .i64 n)) w:=by
 simp [execOp,hop,resolve,invoke,builtin,hx,Builtin.len_,goInt,Result.andThen,run_underlying hu]
theorem Lvs.put_ne {sz:Nat}{env:List (Nat × Value)}{a:Act}(h:Lvs sz env a){d:Nat}{v:Value}(hne:∀ p∈env,p.1≠d):Lvs sz env (a.put (some d) v):=by
 refine ⟨by simp [Act.put,h.size],h.defers,fun p hp=>?_⟩
 simp only [Act.put]
 rw [Array.getElem?_setIfInBounds_ne (Ne.symm (hne p hp))]
 exact h.has p hp
theorem grown_at (w:World)(d:Nat):Grown w (w.at d):=⟨Nat.le_refl _,fun _ _=>rfl,trivial⟩
section
variable {kb:Kb} {l:List OpD} {K:Ker} {L:Nat→Option Lv} {r:Nat} {Inb:Nat→Option Seat} {nG:Nat} {w w':World}
theorem Co.bkMn (co:Co kb l K L r Inb nG w):Mn kb L w kb.bk:=by
 have R:=co.env.rep
 refine ⟨R.lk,R.kf,R.ks,R.kd,fun g v hv=>⟨fun hi=>?_,fun hc=>?_⟩⟩
 ·obtain ⟨f,u,A⟩:=co.at_ g v hv
  have:=(A.own.ap _ hi).1
  rw [(co.onk g v hv).k] at this
  exact this rfl
 ·exact (co.chan g v hv _ hc).2.1 rfl
theorem Co.nS (co:Co kb l K L r Inb nG w){l':List OpD}{K':Ker}{L':Nat→Option Lv}{r':Nat}{Inb':Nat→Option Seat}{nG':Nat}(co':Co kb l' K' L' r' Inb' nG' w')(hk:w'.heap[kb.bk]?=w.heap[kb.bk]?):K'.nS=K.nS:=(sizes_of co.env.rep co'.env.rep hk).2.1
end
end Go.Proofs.YtcgabodkegcpgaaDoor
