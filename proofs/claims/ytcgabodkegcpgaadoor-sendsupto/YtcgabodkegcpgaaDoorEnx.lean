/- Walking functions of main's in company: leaving with results in cells, regions in whatever order that only read, blocks of main's own (Loc). -/
import Derived.Test.YtcgabodkegcpgaaDoorCia
set_option linter.unusedVariables false
set_option linter.unusedSimpArgs false
set_option maxHeartbeats 20000000
set_option maxRecDepth 100000
namespace Go.Proofs.YtcgabodkegcpgaaDoor
open Go.Conc Go.RowKit
open Br (X OpD KO SO SP sfO Lk Fit Must DL Liv Clear)
section
variable {P:Program} {main st:Bool} {sft:Nat→Nat} {Stop:Goroutine→World→Prop} {b:Frame} {a:Act} {k:List Item} {cs:List Frame} {w:World} {ops:Array Oper}
theorem liv_leaveC {fn:Func}{todo:List Item}{c:Frame}{v:Value}(hn:b.kind=.normal)(hd:a.defers=[])(hf:P.funcs[b.fn]?=some fn)(hr:∀ d,(results fn a.tmps).run P (w.at d)=.ok v (w.at d))
  (h:Liv P main st sft Stop (G (c.finish v) cs) w):Liv P main st sft Stop (G { b.at a todo with mode:=.returning } (c::cs)) w:=fun d=>by
 refine .step (fun _=>G (c.finish v) cs) (fun d'=>w.at d') (fun d'=>seen P b.fn ((results fn a.tmps).events P (w.at d') #[])) rfl (fun d'=>?_) (fun d'=>⟨.refl _ _,fun e he=>?_,rfl⟩) (fun d'=>h d')
 ·have h1:=hr d'
  show stepG P main (G { b.at a todo with mode:=.returning } (c::cs)) (w.at d')=_
  simp [G,stepG,unwind,doReturn,Frame.at,hn,hd,hf,h1,GStep.after]
 ·have ht:=Br.t_results (P:=P) (st:=false) fn a.tmps
  unfold Br.TT at ht
  rw [show (false=true)=False by simp] at ht
  have key:=(Br.t_lists (sft:=sft) P (results fn a.tmps) (st=true) _ (w.at d') #[] ht).2
  have he':e∈((results fn a.tmps).runT P (w.at d') #[]).2:=Br.mem_seen he
  have hr':((results fn a.tmps).runT P (w.at d') #[]).1=.ok v (w.at d'):=by rw [Sem.runT_fst];exact hr d'
  rw [hr'] at key
  rcases key e he' with h|h
  ·simp at h
  ·exact h
theorem lg_region {n:Nat}{il:List Nat}(hr:List.range ops.size=il)(h:Liv P main st sft Stop (G (b.at a (.inRegion ops il::k)) cs) w):Liv P main st sft Stop (G (b.at a (.code (.region n ops false)::k)) cs) w:=Br.liv_region (by rw [hr];exact h)
end
def Clo (ops:Array Oper)(listed:Array Bool):Prop:=∀ i o,listed.getD i false=true→ops[i]?=some o→∀ j,(o.after.any fun e=>Region.binds .any e && e.on == j)=true→listed.getD j false=true
def pathOk (ops:Array Oper):List Nat→Bool
 | i::j::r=>(((ops[i]?).map fun o=>o.after.any fun e=>Region.binds .any e && e.on == j).getD false) && pathOk ops (j::r)
 | _=>true
theorem Clo.path {ops:Array Oper}{listed:Array Bool}(h:Clo ops listed):∀ (p:List Nat) (i j:Nat),pathOk ops (i::(p ++ [j]))=true→listed.getD i false=true→listed.getD j false=true
 | [],i,j,hp,hi=>by
  simp only [List.nil_append,pathOk,Bool.and_true] at hp
  cases ho:ops[i]? with
  | none=>rw [ho] at hp;cases hp
  | some o=>rw [ho] at hp;exact h i o hi ho j hp
 | k::p,i,j,hp,hi=>by
  simp only [List.cons_append,pathOk,Bool.and_eq_true] at hp
  cases ho:ops[i]? with
  | none=>rw [ho] at hp;cases hp.1
  | some o =>
   rw [ho] at hp
   exact Clo.path h p k j hp.2 (h i o hi ho k hp.1)
theorem Clo.put {ops:Array Oper}{listed:Array Bool}(h:Clo ops listed){i:Nat}(hi:i∈Region.ready .any ops listed):Clo ops (listed.setIfInBounds i true):=fun k o hk ho j hj=>by
 refine Br.set_on ?_
 by_cases e:i=k
 ·subst e;exact Br.ready_after hi ho hj
 ·refine h k o ?_ ho j hj
  cases hq:listed.getD k false with
  | true=>rfl
  | false=>rw [Br.set_off hq e] at hk;cases hk
theorem lg_draw {main:Bool}{sft:Nat→Nat}{Stop:Goroutine→World→Prop}{b:Frame}{a:Act}{k:List Item}{cs:List Frame}{w:World}{ops:Array Oper}{V:Nat→Value}{id:Nat}(hbk:b.kind≠.early)(hdf:a.defers=[])(h1:Br.oneDst ops=true)
  (hs:(List.range ops.size).all (fun i=>((ops[i]?).map (·.after.all fun e=>!Region.binds .any e || decide (e.on<i))).getD true)=true)
  (hstep:∀ i a' listed,Br.Agr ops V a.tmps listed a'→Clo ops listed→i∈Region.ready .any ops listed→∃ o,ops[i]?=some o ∧
   ((Region.wanted o (yielded ops a'.tmps)=false∧V i=undef)∨(Region.wanted o (yielded ops a'.tmps)=true∧Br.okOp Tryd.prog (fun _=>false) [] false o.op=true∧∀ d,(execOp a'.eval o).run Tryd.prog (w.at d)=.ok (.value (V i)) (w.at d))))
  (hn:∀ a' listed,Br.Agr ops V a.tmps listed a'→(∀ i,i<ops.size→listed.getD i false=true)→Liv Tryd.prog main true sft Stop (G (b.at a' k) cs) w) :
  Liv Tryd.prog main true sft Stop (G (b.at a (.code (.region id ops true)::k)) cs) w:=by
 have key:∀ fuel listed a' rest,Br.Ord ops fuel listed rest→(Br.Agr ops V a.tmps listed a'∧Clo ops listed)→Liv Tryd.prog main true sft Stop (G (b.at a' (.inRegion ops rest::k)) cs) w:=by
  refine Br.ord_any (Ag:=fun listed a'=>Br.Agr ops V a.tmps listed a'∧Clo ops listed) (J:=fun a' rest=>Liv Tryd.prog main true sft Stop (G (b.at a' (.inRegion ops rest::k)) cs) w) (fun f listed a' i rest hi hA hO hgo=>?_) (fun listed a' hno hA=>?_)
  ·obtain ⟨o,ho,⟨hw,hv⟩|⟨hw,hop,hr⟩⟩:=hstep i a' listed hA.1 hA.2 hi
   ·exact Br.liv_unwanted ho hw (hgo _ ⟨hA.1.put h1 ho hv,hA.2.put hi⟩)
   ·exact lv_val ho hw hbk hop hr (hgo _ ⟨hA.1.put h1 ho rfl,hA.2.put hi⟩)
  ·exact Br.liv_region_end (hn a' listed hA.1 (Br.all_listed hs hA.1.len hno))
 refine fun d0=>must_draw (fun t d=>?_) d0
 obtain ⟨tm,df⟩:=a
 obtain rfl:df=[]:=hdf
 exact key _ _ ⟨tm,[]⟩ _ (Br.ord_start (by kernel_rfl) ops t) ⟨Br.Agr.start ops V tm,fun i o hi=>by rw [rep_off] at hi;cases hi⟩ d
theorem lvs_agr {sz:Nat}{env env':List (Nat × Value)}{a a':Act}{ops:Array Oper}{V:Nat→Value}{listed:Array Bool}(hA:Lvs sz env a)(hG:Br.Agr ops V a.tmps listed a')(hall:∀ i,i<ops.size→listed.getD i false=true)
  (h:∀ p∈env',(∃ i o,ops[i]?=some o∧o.dst=some p.1∧V i=p.2∧p.1<sz)∨(((List.range ops.size).all fun i=>((ops[i]?).map (fun o=>o.dst != some p.1)).getD true)=true∧env.lookup p.1=some p.2)):Lvs sz env' a':=by
 refine ⟨hG.size.trans hA.size,hG.defs,fun p hp=>?_⟩
 rcases h p hp with ⟨i,o,ho,hd,hv,hl⟩|⟨hn,hl⟩
 ·rw [← hv]
  exact hG.done i o p.1 ho hd (hall i (Array.getElem?_eq_some_iff.1 ho).1) (by rw [hA.size];exact hl)
 ·rw [hG.still p.1 (fun i o ho hd=>?_)]
  ·exact hA.at hl
  ·rw [List.all_eq_true] at hn
   have:=hn i (List.mem_range.2 (Array.getElem?_eq_some_iff.1 ho).1)
   rw [ho] at this
   simp [hd] at this
section
variable {sz:Nat} {env:List (Nat × Value)} {a a':Act} {ops:Array Oper} {V:Nat→Value} {listed:Array Bool}
theorem agr_own (hA:Lvs sz env a)(hG:Br.Agr ops V a.tmps listed a'){i j t:Nat}{o oj:Oper}{v:Value}(hr:i∈Region.ready .any ops listed)(ho:ops[i]?=some o)(hj:(o.after.any fun e=>Region.binds .any e && e.on == j)=true)(hoj:ops[j]?=some oj)(ht:oj.dst=some t)(hb:t<sz)(hv:V j=v):a'.eval (.tmp t)=v :=
 hG.tmp hoj ht (Br.ready_after hr ho hj) (by rw [hA.size];exact hb) hv
theorem agr_base (hA:Lvs sz env a)(hG:Br.Agr ops V a.tmps listed a'){t:Nat}{v:Value}(hn:((List.range ops.size).all fun i=>((ops[i]?).map (fun o=>o.dst != some t)).getD true)=true)(hv:env.lookup t=some v):a'.eval (.tmp t)=v :=
 hG.base hn (hA.at hv)
theorem agr_late (hA:Lvs sz env a)(hG:Br.Agr ops V a.tmps listed a')(hcl:Clo ops listed){i i0 t:Nat}{p:List Nat}{v:Value}(hr:i∈Region.ready .any ops listed)(hn:((List.range ops.size).all fun j=>j == i0 || ((ops[j]?).map (fun o=>o.dst != some t)).getD true)=true)(hp:pathOk ops (i0::(p ++ [i]))=true)(hv:env.lookup t=some v):a'.eval (.tmp t)=v:=by
 show a'.tmps.getD t undef=v
 rw [Array.getD_eq_getD_getElem?,hG.still t (fun j o ho hd=>?_),hA.at hv];· rfl
 rw [List.all_eq_true] at hn
 have:=hn j (List.mem_range.2 (Array.getElem?_eq_some_iff.1 ho).1)
 rw [ho] at this
 simp only [Option.map_some,hd,Option.getD_some,bne_self_eq_false,Bool.or_false,beq_iff_eq] at this
 subst this
 cases hq:listed.getD j false with
 | false=>rfl
 | true=>exact (Br.ready_no hr (hcl.path p j i hp hq)).elim
theorem agr_wanted (hA:Lvs sz env a)(hG:Br.Agr ops V a.tmps listed a'){i j t:Nat}{o oj:Oper}{x y:Bool}(hr:i∈Region.ready .any ops listed)(ho:ops[i]?=some o)(hg:o.guard=some (j,y))(hj:(o.after.any fun e=>Region.binds .any e && e.on == j)=true)(hoj:ops[j]?=some oj)(ht:oj.dst=some t)(hb:t<sz)(hv:V j=.bool x):Region.wanted o (yielded ops a'.tmps)=(x == y):=by
 have e:=hG.done j oj t hoj ht (Br.ready_after hr ho hj) (by rw [hA.size];exact hb)
 unfold Region.wanted
 rw [hg]
 simp only [yielded,hoj,Option.bind_some,ht,e,hv]
 cases x<;>cases y<;>rfl
end
theorem lw_storeCell {sz:Nat}{env:List (Nat × Value)}{main:Bool}{sft:Nat→Nat}{Stop:Goroutine→World→Prop}{b:Frame}{a:Act}{ops:Array Oper}{i x bx j t ty:Nat}{y:Operand}{o:Oper}{rest:List Nat}{k:List Item}{cs:List Frame}{w:World}{c0:Array Value}{v0:Value}(hA:Lvs sz env a)(ho:ops[i]?=some o)(hg:o.guard=none)(hk:b.kind≠.early)(hop:o.op=.store ty (.tmp x) y)(hd:o.dst=none)(hft:Fit sft w)
  (hb:w.heap[bx]?=some (.cells c0 t (0,0)))(hj:j<c0.size)(hz:sft bx=0)
  (hst:∀ v:World,v.cell? ⟨bx,j,none⟩=some c0[j]→v.frozen? ⟨bx,j,none⟩=false→(execOp a.eval o).run Tryd.prog v=.ok .skip (v.setCell ⟨bx,j,none⟩ v0))
  (h:∀ w',w'.heap.size=w.heap.size→(∀ k,k≠bx→w'.heap[k]?=w.heap[k]?)→w'.heap[bx]?=some (.cells (c0.setIfInBounds j v0) t (0,0))→Liv Tryd.prog main true sft Stop (G (b.at a (.inRegion ops rest::k)) cs) w') :
  Liv Tryd.prog main true sft Stop (G (b.at a (.inRegion ops (i::rest)::k)) cs) w:=by
 have row:∀ d v,Lk sft v (w.at d)→v.heap[bx]?=some (.cells c0 t (0,0)):=fun d v hv=>by
  rw [lk_same (w:=w.at d) hv hz (.inl ⟨_,_,_,hb⟩)];exact hb
 refine lw_skipped (R:=fun v v'=>v'=v.setCell ⟨bx,j,none⟩ v0) hA ho hg hk (by rw [hop];rfl) hd hft (fun d v hv=>⟨_,hst v ?_ ?_,rfl⟩) (fun d w2 v v' hv hl' hkp hR=>?_)
 ·simp [World.cell?,row d v hv,hj]
 ·simp [World.frozen?,row d v hv]
 ·subst hR
  have sv:v.heap.size=w.heap.size:=hv.size
  have sv':=hl'.size
  rw [size_setCell] at sv'
  have hv3:=row_set c0 t j v0 v bx (row d v hv)
  refine h w2 (by omega) (fun k hne=>?_) ?_
  ·exact same_block (w:=w.at d) hkp hv hl' (by rw [Br.heap_setCell,if_neg (fun e=>hne e.symm)])
  ·rw [← lk_same hl' hz (.inr ⟨_,_,_,hv3⟩)];exact hv3
section
variable {sz:Nat} {env:List (Nat × Value)} {main:Bool} {sft:Nat→Nat} {Stop:Goroutine→World→Prop} {f:FuncId} {a:Act} {ops:Array Oper} {i D j T:Nat} {o oj:Oper} {op:Op} {x y:Bool} {rest:List Nat} {k:List Item} {cs:List Frame} {w:World} {v:Value} {X:Operand}
theorem wm (hA:Lvs sz env a)(ho:ops[i]?=some o)(hg:o.guard=none)(hop:o.op=.move X)(hx:a.eval X=v)(hd:o.dst=some D)(hD:Nat.blt D sz=true)(h:∀ a',Lvs sz ((D,v)::env.filter (fun p=>p.1 != D)) a'→Liv Tryd.prog main true sft Stop (G ((base f).at a' (.inRegion ops rest::k)) cs) w):Liv Tryd.prog main true sft Stop (G ((base f).at a (.inRegion ops (i::rest)::k)) cs) w :=
 lw_val hA ho (wanted_none hg) (by show CallKind.normal≠.early;decide) (by rw [hop];rfl) hd (by simpa using hD) (fun d=>run_move hop hx) h
theorem wt (hA:Lvs sz env a)(ho:ops[i]?=some o)(hg:o.guard=none)(hop:o.op=.assign X)(hx:a.eval X=v)(hd:o.dst=some D)(hD:Nat.blt D sz=true)(h:∀ a',Lvs sz ((D,v)::env.filter (fun p=>p.1 != D)) a'→Liv Tryd.prog main true sft Stop (G ((base f).at a' (.inRegion ops rest::k)) cs) w):Liv Tryd.prog main true sft Stop (G ((base f).at a (.inRegion ops (i::rest)::k)) cs) w :=
 lw_val hA ho (wanted_none hg) (by show CallKind.normal≠.early;decide) (by rw [hop];rfl) hd (by simpa using hD) (fun d=>run_assign hop hx) h
theorem wmg (hA:Lvs sz env a)(ho:ops[i]?=some o)(hg:o.guard=some (j,y))(hj:ops[j]?=some oj)(ht:oj.dst=some T)(hx0:env.lookup T=some (.bool x))(hxy:(x == y)=true)(hop:o.op=.move X)(hx:a.eval X=v)(hd:o.dst=some D)(hD:Nat.blt D sz=true)(h:∀ a',Lvs sz ((D,v)::env.filter (fun p=>p.1 != D)) a'→Liv Tryd.prog main true sft Stop (G ((base f).at a' (.inRegion ops rest::k)) cs) w):Liv Tryd.prog main true sft Stop (G ((base f).at a (.inRegion ops (i::rest)::k)) cs) w :=
 lw_val hA ho ((hA.wanted hg hj ht hx0).trans hxy) (by show CallKind.normal≠.early;decide) (by rw [hop];rfl) hd (by simpa using hD) (fun d=>run_move hop hx) h
theorem wu (hA:Lvs sz env a)(ho:ops[i]?=some o)(hg:o.guard=some (j,y))(hj:ops[j]?=some oj)(ht:oj.dst=some T)(hx0:env.lookup T=some (.bool x))(hxy:(x == y)=false)(hd:o.dst=some D)(hD:Nat.blt D sz=true)(h:∀ a',Lvs sz ((D,undef)::env.filter (fun p=>p.1 != D)) a'→Liv Tryd.prog main true sft Stop (G ((base f).at a' (.inRegion ops rest::k)) cs) w):Liv Tryd.prog main true sft Stop (G ((base f).at a (.inRegion ops (i::rest)::k)) cs) w :=
 lw_skip hA ho ((hA.wanted hg hj ht hx0).trans hxy) hd (by simpa using hD) h
theorem wop (hA:Lvs sz env a)(ho:ops[i]?=some o)(hg:o.guard=none)(hop:o.op=op)(hok:Br.okOp Tryd.prog (fun _=>false) [] false op=true)(hd:o.dst=some D)(hD:Nat.blt D sz=true)(hv:∀ o':Oper,o'.op=op→∀ d,(execOp a.eval o').run Tryd.prog (w.at d)=.ok (.value v) (w.at d))(h:∀ a',Lvs sz ((D,v)::env.filter (fun p=>p.1 != D)) a'→Liv Tryd.prog main true sft Stop (G ((base f).at a' (.inRegion ops rest::k)) cs) w):Liv Tryd.prog main true sft Stop (G ((base f).at a (.inRegion ops (i::rest)::k)) cs) w :=
 lw_val hA ho (wanted_none hg) (by show CallKind.normal≠.early;decide) (by rw [hop];exact hok) hd (by simpa using hD) (hv o hop) h
theorem wopg (hA:Lvs sz env a)(ho:ops[i]?=some o)(hg:o.guard=some (j,y))(hj:ops[j]?=some oj)(ht:oj.dst=some T)(hx0:env.lookup T=some (.bool x))(hxy:(x == y)=true)(hop:o.op=op)(hok:Br.okOp Tryd.prog (fun _=>false) [] false op=true)(hd:o.dst=some D)(hD:Nat.blt D sz=true)(hv:∀ o':Oper,o'.op=op→∀ d,(execOp a.eval o').run Tryd.prog (w.at d)=.ok (.value v) (w.at d))(h:∀ a',Lvs sz ((D,v)::env.filter (fun p=>p.1 != D)) a'→Liv Tryd.prog main true sft Stop (G ((base f).at a' (.inRegion ops rest::k)) cs) w):Liv Tryd.prog main true sft Stop (G ((base f).at a (.inRegion ops (i::rest)::k)) cs) w :=
 lw_val hA ho ((hA.wanted hg hj ht hx0).trans hxy) (by show CallKind.normal≠.early;decide) (by rw [hop];exact hok) hd (by simpa using hD) (hv o hop) h
end
def Ins (env:List (Nat × Value)):List (Nat × Value)→Prop
 | []=>True
 | p::r=>env.lookup p.1=some p.2∧Ins env r
theorem Ins.mem {env:List (Nat × Value)}:∀ {r:List (Nat × Value)},Ins env r→∀ p∈r,env.lookup p.1=some p.2
 | _::_,h,p,hp=>by
  rcases List.mem_cons.1 hp with rfl|hp
  ·exact h.1
  ·exact Ins.mem h.2 p hp
theorem Lvs.cut {sz:Nat}{env env':List (Nat × Value)}{a:Act}(h:Lvs sz env a)(hs:Ins env env'):Lvs sz env' a:=h.sub hs.mem
structure Loc (kb:Kb) (b:Lb) (n:Nat) (l:List OpD) (L:Nat→Option Lv) (w:World) (V:Nat→Value) (k:Nat) (x:Obj):Prop where
 mw:Mw kb l L w k
 is:w.heap[k]?=some x
 nl:k≠b.bl
 nu:k≠b.bu
 nn:k≠b.bn
 nv:∀ p,p<n→(V p).ownBlock≠some k
section
variable {kb:Kb} {b:Lb} {n:Nat} {l:List OpD} {L:Nat→Option Lv} {w w':World} {V:Nat→Value} {k:Nat} {x:Obj} {nG:Nat}
theorem Loc.grown (h:Loc kb b n l L w V k x)(g:Grown w w'):Loc kb b n l L w' V k x:=⟨h.mw.grow g.size,(g.old k h.mw.mn.lt).trans h.is,h.nl,h.nu,h.nn,h.nv⟩
theorem Loc.begun (h:Loc kb b n l L w V k x){C:Ctx}{S:Ker→Strat}{H:Heap}{cs:List Frame}(hk:∀ k,Mn kb L w k→k≠b.bu→Mn kb (ConcN.upd L nG (some ⟨C,S,[C.o.bo],H,cs⟩)) w' k∧w'.heap[k]?=w.heap[k]?):Loc kb b n (C.o::l) (ConcN.upd L nG (some ⟨C,S,[C.o.bo],H,cs⟩)) w' V k x:=by
 obtain ⟨m1,m2⟩:=hk k h.mw.mn h.nu
 refine ⟨⟨m1,h.mw.bk,h.mw.tab,fun o ho=>?_⟩,m2.trans h.is,h.nl,h.nu,h.nn,h.nv⟩
 rcases List.mem_cons.1 ho with rfl|ho
 ·intro e
  exact (m1.own nG _ (ConcN.upd_same _ _ _)).1 (by rw [← e];exact List.mem_cons_self ..)
 ·exact h.mw.rc o ho
theorem Loc.goes {L':Nat→Option Lv}(h:Loc kb b n l L w V k x)(hk:Kp kb L w L' w'):Loc kb b n l L' w' V k x:=⟨h.mw.kp hk,(hk k h.mw.mn).2.trans h.is,h.nl,h.nu,h.nn,h.nv⟩
theorem Loc.ex (h:Loc kb b n l L w V k x){p:Nat}(hp:p<n):¬ LibEx b V p k:=fun e=>by
 rcases e with e|e|e
 ·exact h.nu e
 ·exact h.nn e
 ·exact h.nv p hp e
theorem Loc.over {L':Nat→Option Lv}(h:Loc kb b n l L w V k x){p g m cap:Nat}(hp:p<n)(hg:∀ k,Mn kb L w k→¬ LibEx b V p k→k≠g)(hk:∀ k,Mn kb L w k→¬ LibEx b V p k→Mn kb L' w' k∧w'.heap[k]?=w.heap[k]?):Loc kb b n l L' w' (setV V p (.slice (some ⟨g,0,none⟩) m cap)) k x:=by
 obtain ⟨m1,m2⟩:=hk k h.mw.mn (h.ex hp)
 refine ⟨⟨m1,h.mw.bk,h.mw.tab,h.mw.rc⟩,m2.trans h.is,h.nl,h.nu,h.nn,fun q hq=>?_⟩
 by_cases e:q=p
 ·subst e
  simp only [setV,if_true]
  exact fun e=>hg k h.mw.mn (h.ex hq) (Option.some.inj e).symm
 ·simp only [setV,e,if_false]
  exact h.nv q hq
theorem Loc.lt (h:Loc kb b n l L w V k x):k<w.heap.size:=h.mw.mn.lt
theorem Loc.wrote (hz:w.heap.size≤w'.heap.size)(hs:∀ i,i<w.heap.size→i≠k→w'.heap[i]?=w.heap[i]?){j:Nat}{y:Obj}(hj:Loc kb b n l L w V j y)(hne:j≠k):Loc kb b n l L w' V j y:=⟨hj.mw.grow hz,(hs j hj.lt hne).trans hj.is,hj.nl,hj.nu,hj.nn,hj.nv⟩
theorem Loc.self (h:Loc kb b n l L w V k x){y:Obj}(hz:w'.heap.size=w.heap.size)(hy:w'.heap[k]?=some y):Loc kb b n l L w' V k y:=⟨h.mw.grow (by omega),hy,h.nl,h.nu,h.nn,h.nv⟩
theorem loc_new {K:Ker}{r B0:Nat}{Inb:Nat→Option Seat}{U:Nat→Option OpD}{N:Nat→Nat}{Xs:Nat→List Value}(co:Co kb l K L r Inb nG w)(lm:LibM kb l L w b n B0 U V N Xs)(h1:w.heap.size≤k)(h2:w'.heap[k]?=some x):Loc kb b n l L w' V k x:=by
 have hlt:=(Array.getElem?_eq_some_iff.1 h2).1
 refine ⟨co.new h1 hlt,h2,?_,?_,?_,fun p hp e=>?_⟩
 ·have:=lm.m.mbl.mn.lt;omega
 ·have:=lm.m.mbu.mn.lt;omega
 ·have:=lm.m.mbn.mn.lt;omega
 ·have:=(lm.m.mls p hp k e).mn.lt;omega
variable {w0:World} {i:Nat} {K:Ker} {r:Nat} {Inb:Nat→Option Seat} {U:Nat→Option OpD} {N:Nat→Nat} {Xs:Nat→List Value}
theorem CI.any (h:CI w0 kb b n i l K (fun _=>none) r Inb nG w U V N Xs)(r':Nat):CI w0 kb b n i l K (fun _=>none) r' Inb nG w U V N Xs :=
 ⟨⟨h.co.env,h.co.top,h.co.gid,h.co.onk,h.co.at_,fun g v hv=>(by cases hv),h.co.seat,h.co.none,h.co.main0,h.co.chan,h.co.chne,h.co.pvch,h.co.apart⟩,h.hn,h.lm,h.g0,h.u1,h.all,h.nb,h.ints,h.old,h.far⟩
theorem CI.wrote (h:CI w0 kb b n i l K L r Inb nG w U V N Xs)(hk:Loc kb b n l L w V k x)(hz:w.heap.size≤w'.heap.size)(hs:∀ j,j<w.heap.size→j≠k→w'.heap[j]?=w.heap[j]?)(h0:w0.heap.size≤k):CI w0 kb b n i l K L r Inb nG w' U V N Xs:=by
 have hcl:Clear w':=trivial
 refine ⟨h.co.wrote hz hcl (fun j hj hn=>hs j hj (fun e=>hn (e▸hk.mw))),h.hn,⟨⟨h.lm.m.is.same (hs _ h.lm.m.mbl.mn.lt (Ne.symm hk.nl)) (hs _ h.lm.m.mbu.mn.lt (Ne.symm hk.nu)) (hs _ h.lm.m.mbn.mn.lt (Ne.symm hk.nn)) (fun p hp g hg=>hs g (h.lm.m.mls p hp g hg).mn.lt (fun e=>hk.nv p hp (e▸hg))),h.lm.m.mbl.grow hz,h.lm.m.mbu.grow hz,h.lm.m.mbn.grow hz,fun p hp g hg=>(h.lm.m.mls p hp g hg).grow hz,h.lm.m.b0⟩,h.lm.live⟩,h.g0,h.u1,h.all,h.nb,h.ints,fun j hj=>⟨(h.old j hj).1.grow hz,(hs j (h.old j hj).1.lt (by omega)).trans (h.old j hj).2⟩,h.far⟩
end
end Go.Proofs.YtcgabodkegcpgaaDoor
