/- Walking code in company, step by step: Liv: whatever it has drawn so far, it must come to the stop; the rules of the code. No statement of the program is proved here. -/
import Derived.Test.YtcgabodkegcpgaaDoorMut
import Derived.Conc.CompanyCalls
import Derived.Test.YtcgabodkegcpgaaDoorProg
import Derived.KernelRfl
import Derived.Test.YtcgabodkegcpgaaDoorKer
namespace Go.Proofs.YtcgabodkegcpgaaDoor.Br
open Go.Conc
set_option maxHeartbeats 20000000
variable {P:Program} {S:FuncId→Bool} {meths:List String} {st:Bool} {sft:Nat→Nat} {main:Bool} {Stop:Goroutine→World→Prop} {b:Frame} {a:Act} {k:List Item} {cs:List Frame} {w:World} {ops:Array Oper} {i:Nat} {rest:List Nat} {o:Oper}
set_option linter.unusedSimpArgs false
set_option linter.unusedVariables false
def Liv (P:Program)(main:Bool)(st:Bool)(sft:Nat→Nat)(Stop:Goroutine→World→Prop)(g:Goroutine)(w:World):Prop:=∀ d,Must P main (DL st sft) Stop g (w.at d)
theorem liv_must {g:Goroutine}(h:Liv P main st sft Stop g w):Must P main (DL st sft) Stop g w:=h w.drawn
theorem liv_of {g:Goroutine}{Stop':Goroutine→World→Prop}(h:∀ d,Must P main (DL st sft) Stop' g (w.at d))(hn:∀ g' w',Stop' g' w'→Liv P main st sft Stop g' w'):Liv P main st sft Stop g w :=
 fun d=>(h d).then fun g' w' hs=>liv_must (hn g' w' hs)
theorem dl_none (w:World):DL st sft w w #[]:=⟨.refl _ _,fun e he=>by simp at he,rfl⟩
theorem liv_go {g g':Goroutine}(hr:g.status=.running)(h:∀ u,stepG P main g u=.go g' u #[])(hn:Liv P main st sft Stop g' w):Liv P main st sft Stop g w:=fun d =>
 .step (fun _=>g') (fun d'=>w.at d') (fun _=>#[]) hr (fun d'=>h _) (fun d'=>dl_none _) (fun d'=>hn d')
theorem liv_skip (h:Liv P main st sft Stop (G (b.at a k) cs) w):Liv P main st sft Stop (G (b.at a (.code .skip::k)) cs) w:=liv_go rfl (fun _=>stepG_skip) h
theorem liv_inBlock {id:Nat}(h:Liv P main st sft Stop (G (b.at a k) cs) w):Liv P main st sft Stop (G (b.at a (.inBlock id::k)) cs) w:=liv_go rfl (fun _=>stepG_inBlock) h
theorem liv_seq {x y:Code}(h:Liv P main st sft Stop (G (b.at a (.code x::.code y::k)) cs) w):Liv P main st sft Stop (G (b.at a (.code (.seq x y)::k)) cs) w:=liv_go rfl (fun _=>stepG_seq) h
theorem liv_cond {c:Operand}{x y:Code}{t:Bool}(hc:a.eval c=.bool t)(h:Liv P main st sft Stop (G (b.at a (.code (if t then x else y)::k)) cs) w):Liv P main st sft Stop (G (b.at a (.code (.cond c x y)::k)) cs) w:=liv_go rfl (fun _=>stepG_cond hc) h
theorem liv_block {id:Nat}{c:Code}(h:Liv P main st sft Stop (G (b.at a (.code c::.inBlock id::k)) cs) w):Liv P main st sft Stop (G (b.at a (.code (.block id c)::k)) cs) w:=liv_go rfl (fun _=>stepG_block) h
theorem liv_loop {c:Code}(h:Liv P main st sft Stop (G (b.at a (.code c::.inLoop c::k)) cs) w):Liv P main st sft Stop (G (b.at a (.code (.loop c)::k)) cs) w:=liv_go rfl (fun _=>stepG_loop) h
theorem liv_inLoop {c:Code}(h:Liv P main st sft Stop (G (b.at a (.code c::.inLoop c::k)) cs) w):Liv P main st sft Stop (G (b.at a (.inLoop c::k)) cs) w:=liv_go rfl (fun _=>stepG_inLoop) h
theorem liv_exit {id:Nat}{k':List Item}(hk:exitTo id k=some k')(h:Liv P main st sft Stop (G (b.at a k') cs) w):Liv P main st sft Stop (G (b.at a (.code (.exit id)::k)) cs) w:=liv_go rfl (fun _=>stepG_exit hk) h
theorem liv_ret (h:Liv P main st sft Stop (G { b.at a (.code .ret::k) with mode:=.returning } cs) w):Liv P main st sft Stop (G (b.at a (.code .ret::k)) cs) w:=liv_go rfl (fun _=>stepG_ret') h
theorem liv_region {id:Nat}(h:Liv P main st sft Stop (G (b.at a (.inRegion ops (List.range ops.size)::k)) cs) w):Liv P main st sft Stop (G (b.at a (.code (.region id ops false)::k)) cs) w:=liv_go rfl (fun _=>stepG_region) h
theorem liv_region_end (h:Liv P main st sft Stop (G (b.at a k) cs) w):Liv P main st sft Stop (G (b.at a (.inRegion ops [] :: k)) cs) w:=liv_go rfl (fun _=>stepG_region_end) h
theorem liv_unwanted (ho:ops[i]?=some o)(hw:Region.wanted o (yielded ops a.tmps)=false)(h:Liv P main st sft Stop (G (b.at (a.put o.dst undef) (.inRegion ops rest::k)) cs) w):Liv P main st sft Stop (G (b.at a (.inRegion ops (i::rest)::k)) cs) w:=liv_go rfl (fun _=>stepG_unwanted ho hw) h
theorem liv_call {f:FuncId}{fn:Func}{c:Code}{args:Array Operand}{ats:Array TypeId}(ho:ops[i]?=some o)(hw:Region.wanted o (yielded ops a.tmps)=true)(hk:b.kind≠.early)(hop:o.op=.call { callee:=.value (.func f),args,argTypes:=ats })
  (hf:P.funcs[f]?=some fn)(hname:(fn.name == "runtime.NumGoroutine")=false)(hb:fn.body=some c)
  (h:Liv P main st sft Stop (G (Frame.enter P f (args.map a.eval) .normal) (b.at a (.inRegion ops (i::rest)::k)::cs)) w):Liv P main st sft Stop (G (b.at a (.inRegion ops (i::rest)::k)) cs) w:=by
 refine liv_go rfl (fun u=>?_) h
 have hb':fn.body.isNone=false:=by rw [hb];rfl
 rw [stepG_enter ho hw hk (run_call_body hop hf hname hb')]
 have:listed P b.fn a o u=#[]:=by unfold listed;rw [events_call_body hop hf hname hb'];exact seen_none P _
 rw [this]
theorem liv_leave {fn:Func}{todo:List Item}{c:Frame}{v:Value}(hn:b.kind=.normal)(hd:a.defers=[])(hf:P.funcs[b.fn]?=some fn)(hr:ResultsC P fn a.tmps v)
  (h:Liv P main st sft Stop (G (c.finish v) cs) w):Liv P main st sft Stop (G { b.at a todo with mode:=.returning } (c::cs)) w :=
 liv_go rfl (fun u=>stepG_leave hn hd hf (hr u).1 (hr u).2) h
theorem t_lists {α:Type}(p:Program)(e:Sem α)(W:Prop)(Φ:α→Prop):∀ (w:World) (es:Array Event),Tame p False Φ e →
  w.heap.size≤(e.runT p w es).1.world.heap.size∧Lists sft W (e.runT p w es).1.world.heap.size es (e.runT p w es).2:=by
 have aft:∀ {n m:Nat} {es es1 es2:Array Event},Lists sft W n es es1→n≤m∧Lists sft W m es1 es2→n≤m∧Lists sft W m es es2:=fun h h'=>⟨h'.1,h.trans h'.2 h'.1⟩
 induction e with
 | pure a=>intro w es h;exact ⟨Nat.le_refl _,.refl _ _ _ _⟩
 | load m a k ih =>
  intro w es h
  simp only [Sem.runT]
  split
  ·rename_i hc
   exact aft (.pushC (cell_lt hc) (by simp)) (ih _ w _ (h _))
  ·split
   ·rename_i v t hs
    refine aft (fun x hx=>?_) (ih _ w _ (h _))
    rcases Array.mem_append.1 hx with hx|hx
    ·exact .inl hx
    ·obtain ⟨y,hy,rfl⟩:=Array.mem_map.1 hx
     exact .inr ⟨farLoad_ok hs y (List.mem_toArray.1 hy),by simp⟩
   ·exact ⟨Nat.le_refl _,.refl _ _ _ _⟩
 | store m a x k ih=>intro w es h;exact h.1.elim
 | new o k ih =>
  intro w es h
  simp only [Sem.runT]
  have:=ih _ { w with heap:=w.heap.push o } es (h.2 w.heap.size)
  exact ⟨Nat.le_trans (by simp) this.1,this.2⟩
 | shape r k ih=>intro w es h;simp only [Sem.runT];exact ih _ _ _ (h _)
 | freeze a n k ih=>intro w es h;exact h.elim
 | frozen a k ih=>intro w es h;simp only [Sem.runT];exact ih _ _ _ (t_of_doomed (h _))
 | getObj r k ih =>
  intro w es h
  simp only [Sem.runT]
  split
  ·exact ⟨Nat.le_refl _,.refl _ _ _ _⟩
  ·rename_i hr
   exact aft (.pushO (Array.getElem?_eq_some_iff.1 hr).1) (ih _ w _ (h.1 _))
  ·exact ⟨Nat.le_refl _,.refl _ _ _ _⟩
 | setObj r o k ih=>intro w es h;exact h.elim
 | choose q k ih =>
  intro w es h
  simp only [Sem.runT]
  split
  ·exact ih _ _ _ (h _)
  ·exact ih _ { w with drawn:=w.drawn+1 } _ (h _)
 | sys c k ih=>intro w es h;exact h.elim
 | program k ih=>intro w es h;simp only [Sem.runT];exact ih _ _ _ h
 | mark m k ih=>intro w es h;simp only [Sem.runT];exact aft (.pushM h.1) (ih w _ h.2.2)
 | halt x=>intro w es h;exact ⟨Nat.le_refl _,.refl _ _ _ _⟩
theorem off_listed {u u':World}{x:Next}(hop:okOp P (fun _=>false) [] false o.op=true)(_:Clear u)(hr:(execOp a.eval o).run P u=.ok x u'):∀ e∈listed P b.fn a o u,Off sft (st=true) u'.heap.size e:=by
 intro e he
 have ht:Tame P (false=true) (Comesto (fun f=>(fun _=>false:FuncId→Bool) f=true)) (execOp a.eval o):=t_execOp (P:=P) (S:=fun _=>false) (meths:=[]) (st:=false) id (fun f hf=>by cases hf) (fun m hm=>by cases hm) (fun v=>rfl) (fun f=>rfl) o hop
 rw [show (false=true)=False by simp] at ht
 have key:=(t_lists (sft:=sft) P (execOp a.eval o) (st=true) _ u #[] ht).2
 have he':e∈((execOp a.eval o).runT P u #[]).2:=mem_seen he
 have hr':((execOp a.eval o).runT P u #[]).1=.ok x u':=by rw [Sem.runT_fst];exact hr
 rw [hr'] at key
 rcases key e he' with h|h
 ·simp at h
 ·exact h
theorem liv_op {x:Value}(ho:ops[i]?=some o)(hw:Region.wanted o (yielded ops a.tmps)=true)(hk:b.kind≠.early)(hop:okOp P (fun _=>false) [] false o.op=true)(hc:Clear w)(hr:∀ d,(execOp a.eval o).run P (w.at d)=.ok (.value x) (w.at d))
  (h:Liv P main st sft Stop (G (b.at (a.put o.dst x) (.inRegion ops rest::k)) cs) w):Liv P main st sft Stop (G (b.at a (.inRegion ops (i::rest)::k)) cs) w:=fun d =>
 .step (fun _=>G (b.at (a.put o.dst x) (.inRegion ops rest::k)) cs) (fun d'=>w.at d') (fun d'=>listed P b.fn a o (w.at d')) rfl (fun d'=>stepG_value ho hw hk (hr d'))
  (fun d'=>⟨.refl _ _,off_listed hop (u:=w.at d') hc (hr d'),rfl⟩) (fun d'=>h d')
theorem must_operW (ho:ops[i]?=some o)(hw:Region.wanted o (yielded ops a.tmps)=true)(hk:b.kind≠.early)
  (h:∀ (d:Nat) (K':Act→World→Prop),(∀ a' w',DL st sft (w.at d) w' (listed P b.fn a o (w.at d))∧Must P main (DL st sft) Stop (G (b.at a' (.inRegion ops rest::k)) cs) w'→K' a' w')→uponK o a K' ((execOp a.eval o).run P (w.at d)))(d0:Nat) :
  Must P main (DL st sft) Stop (G (b.at a (.inRegion ops (i::rest)::k)) cs) (w.at d0):=by
 have key:∀ d,∃ g' w' es,stepG P main (G (b.at a (.inRegion ops (i::rest)::k)) cs) (w.at d)=.go g' w' es∧DL st sft (w.at d) w' es∧Must P main (DL st sft) Stop g' w':=by
  intro d
  have:=h d (fun a' w'=>DL st sft (w.at d) w' (listed P b.fn a o (w.at d))∧Must P main (DL st sft) Stop (G (b.at a' (.inRegion ops rest::k)) cs) w') (fun _ _ x=>x)
  revert this
  generalize hr:(execOp a.eval o).run P (w.at d)=r
  cases r with
  | ok x w' =>
   cases x with
   | value v=>exact fun h=>⟨_,_,_,stepG_value ho hw hk hr,h.1,h.2⟩
   | skip=>exact fun h=>⟨_,_,_,stepG_none ho hw hk hr,h.1,h.2⟩
   | _=>exact fun h=>h.elim
  | halt _ _=>exact fun h=>h.elim
 exact .step (fun d=>(key d).choose) (fun d=>(key d).choose_spec.choose) (fun d=>(key d).choose_spec.choose_spec.choose) rfl (fun d=>(key d).choose_spec.choose_spec.choose_spec.1) (fun d=>(key d).choose_spec.choose_spec.choose_spec.2.1) (fun d=>(key d).choose_spec.choose_spec.choose_spec.2.2)
theorem must_oper (ho:ops[i]?=some o)(hw:Region.wanted o (yielded ops a.tmps)=true)(hk:b.kind≠.early)(hop:okOp P (fun _=>false) [] false o.op=true)(hc:Clear w)
  (h:∀ (d:Nat) (K':Act→World→Prop),(∀ a' w',w'=w.at d∧Must P main (DL st sft) Stop (G (b.at a' (.inRegion ops rest::k)) cs) (w.at d)→K' a' w')→uponK o a K' ((execOp a.eval o).run P (w.at d)))(d0:Nat) :
  Must P main (DL st sft) Stop (G (b.at a (.inRegion ops (i::rest)::k)) cs) (w.at d0):=by
 refine must_operW ho hw hk (fun d K' hK=>?_) d0
 have:=h d (fun a' w'=>w'=w.at d∧Must P main (DL st sft) Stop (G (b.at a' (.inRegion ops rest::k)) cs) (w.at d)) (fun _ _ x=>x)
 revert this
 generalize hr:(execOp a.eval o).run P (w.at d)=r
 cases r with
 | ok x w' =>
  cases x with
  | value v =>
   rintro ⟨rfl,hm⟩
   exact hK _ _ ⟨⟨.refl _ _,off_listed hop (u:=w.at d) hc hr,rfl⟩,hm⟩
  | skip =>
   rintro ⟨rfl,hm⟩
   exact hK _ _ ⟨⟨.refl _ _,off_listed hop (u:=w.at d) hc hr,rfl⟩,hm⟩
  | _=>exact fun h=>h.elim
 | halt _ _=>exact fun h=>h.elim
theorem dl_store {u:World}{ad:Addr}{x:Value}{es:Array Event}(hs:sft ad.block≤ad.off)(hlt:ad.block<u.heap.size)(he:∀ e∈es,e=⟨.cell ad,true,false⟩):DL true sft u (u.setCell ad x) es:=by
 refine ⟨⟨fun j o' ho'=>?_,by simp [World.setCell],fun j o' hj ho'=>?_⟩,fun e h=>?_,rfl⟩
 ·rw [heap_setCell]
  split
  ·rename_i e
   rw [ho',Option.map_some]
   refine ⟨_,rfl,?_⟩
   cases o' with
   | cells c t f =>
    refine ⟨_,rfl,?_,fun j' hj=>?_⟩
    ·split<;>simp
    ·split
     ·rfl
     ·rw [Array.getElem?_setIfInBounds_ne]
      subst e;omega
   | _=>exact rfl
  ·exact ⟨o',ho',.refl _ _⟩
 ·have:=(Array.getElem?_eq_some_iff.1 ho').1
  simp [World.setCell] at this
  omega
 ·rw [he e h]
  exact ⟨by simpa [World.setCell] using hlt,fun _=>⟨hs,rfl⟩⟩
theorem dl_alloc {u:World}{x:Go.Obj}{es:Array Event}(he:∀ e∈es,False)(hx:Obj.sight x:=by trivial):DL st sft u (u.alloc x) es:=by
 refine ⟨⟨fun j o' ho'=>⟨o',?_,.refl _ _⟩,by simp,fun j o' hj ho'=>?_⟩,fun e h=>(he e h).elim,rfl⟩
 ·have hlt:=(Array.getElem?_eq_some_iff.1 ho').1
  show (u.heap.push x)[j]?=_
  rw [Array.getElem?_push,if_neg (by omega)]
  exact ho'
 ·have ho':(u.heap.push x)[j]?=some o':=ho'
  rw [Array.getElem?_push] at ho'
  split at ho'
  ·obtain rfl:=Option.some.inj ho';exact hx
  ·have:=(Array.getElem?_eq_some_iff.1 ho').1;omega
theorem mc {g g':Goroutine}(hr:g.status=.running)(h:∀ u,stepG P main g u=.go g' u #[])(hn:∀ d,Must P main (DL st sft) Stop g' (w.at d))(d0:Nat):Must P main (DL st sft) Stop g (w.at d0):=liv_go hr h hn d0
theorem mo (ho:ops[i]?=some o) (hw:Region.wanted o (yielded ops a.tmps)=true) (hc:Clear w)
  (h:∀ (d:Nat) (K':Act→World→Prop),(∀ a' w',w'=w.at d∧Must P main (DL st sft) Stop (G (b.at a' (.inRegion ops rest::k)) cs) (w.at d)→K' a' w')→uponK o a K' ((execOp a.eval o).run P (w.at d))) (d0:Nat) (hk:b.kind≠.early:=by decide) (hop:okOp P (fun _=>false) [] false o.op=true:=by kernel_rfl):
  Must P main (DL st sft) Stop (G (b.at a (.inRegion ops (i::rest)::k)) cs) (w.at d0):=must_oper ho hw hk hop hc h d0
def ix {α:Type}:List α→Nat→List Nat
 | [],_=>[]
 | _::l,n=>n::ix l (n+1)
theorem ix_loop {α:Type}:∀ (l:List α) (n:Nat),ix l n=List.range' n l.length
 | [],_=>rfl
 | _::l,n=>by simp only [ix,List.length_cons,List.range'_succ];rw [ix_loop l (n+1)]
theorem rz {α:Type} (l:List α):List.range l.toArray.size=ix l 0:=by rw [ix_loop,List.size_toArray,List.range_eq_range']
end Go.Proofs.YtcgabodkegcpgaaDoor.Br
namespace Go.Proofs.YtcgabodkegcpgaaDoor.Br
set_option linter.unusedSimpArgs false
set_option maxHeartbeats 20000000
theorem reckonStruct_methods {info:TypeId→Option TypeInfo}{fs:Array Field}{i:TypeInfo}(h:Made.reckonStruct info fs=some i):i.methods=#[]:=by
 unfold Made.reckonStruct at h
 simp only [bind,Option.bind_eq_some_iff] at h
 obtain ⟨r,_,h⟩:=h
 revert h
 repeat' split
 all_goals
  intro h
  first
   | (obtain rfl:=Option.some.inj h;rfl)
   | skip
theorem reckon_methods {info:TypeId→Option TypeInfo}{d:TypeDesc}{i:TypeInfo}(h:Made.reckon info d=some i):i.methods=#[]:=by
 unfold Made.reckon at h
 split at h
 ·simp only [bind,Option.bind_eq_some_iff] at h
  obtain ⟨j,_,h⟩:=h
  split at h
  ·cases h
  ·split at h
   ·cases h
   ·simp only [bind,Option.bind_eq_some_iff] at h
    obtain ⟨s,_,h⟩:=h
    obtain rfl:=Option.some.inj h;rfl
  ·simp only [bind,Option.bind_eq_some_iff] at h
   obtain ⟨s,_,h⟩:=h
   obtain rfl:=Option.some.inj h;rfl
 ·simp only [bind,Option.bind_eq_some_iff] at h
  obtain ⟨j,_,s,_,h⟩:=h
  obtain rfl:=Option.some.inj h;rfl
 ·simp only [bind,Option.bind_eq_some_iff] at h
  obtain ⟨j,_,s,_,j',_,s',_,h⟩:=h
  obtain rfl:=Option.some.inj h;rfl
 ·simp only [bind,Option.bind_eq_some_iff] at h
  obtain ⟨j,_,s,_,h⟩:=h
  obtain rfl:=Option.some.inj h;rfl
 ·simp only [bind,Option.bind_eq_some_iff] at h
  obtain ⟨s,_,h⟩:=h
  obtain rfl:=Option.some.inj h;rfl
 ·simp only [bind,Option.bind_eq_some_iff] at h
  obtain ⟨j,_,s,_,h⟩:=h
  obtain rfl:=Option.some.inj h;rfl
 ·exact reckonStruct_methods h
 ·cases h
theorem made_methods {T:Tables}{t:TypeId}{i:TypeInfo}(ht:T.types.size≤t)(h:T.info? t=some i):i.methods=#[]:=by
 unfold Tables.info? at h
 rw [if_neg (Nat.not_lt.2 ht)] at h
 unfold Made.depth at h
 rw [show (100:Nat)=99+1 from rfl,Made.infoAt,if_neg (Nat.not_lt.2 ht)] at h
 simp only [Option.bind_eq_some_iff] at h
 obtain ⟨d,_,h⟩:=h
 exact reckon_methods h
def goods:List FuncId:=[10,11,13,24,25,26,27,28,29,30,31,32,34,35,36,45,46,47,48,49,50,51,52,53,54,55,56,57,58,59,60,61,62,64,65,66,67,68,69,70,71,72,73,74,77,16,21,40,78,88,90,9,12,33,14,37,38,39,19,43,22,85,94,96,97,114,115,116,117,118]
def Sg (f:FuncId):Bool:=goods.contains f
def ms:List String:=["Len", "Less", "Swap", "Push", "Pop"]
def chkBody (P:Program)(S:FuncId→Bool)(meths:List String)(f:FuncId):Bool :=
 match P.funcs[f]? with
 | some fn=>!(fn.name == "runtime.NumGoroutine") && (match fn.body with|some c=>okCode P S meths true c|none=>false)
 | none=>false
def chkCall (P:Program)(S:FuncId→Bool)(f:FuncId):Bool :=
 match P.funcs[f]? with
 | some fn=>!(fn.name == "runtime.NumGoroutine") && ((!fn.body.isNone && S f) || (fn.body.isNone && (Extern.findNext fn).isNone && (Extern.find fn).isNone && !(fn.name.endsWith ".init" && !fn.name.startsWith "(" && !fn.name.startsWith "gosem.")))
 | none=>false
def chkMeth (P:Program)(S:FuncId→Bool)(meths:List String):Bool :=
 P.types.all fun i=>i.methods.all fun m=>!meths.contains m.name || (match m.func with|some (f,_)=>chkCall P S f|none=>true)
theorem callOk_of {P:Program}{S:FuncId→Bool}{f:FuncId}(h:chkCall P S f=true):CallOk P (fun f=>S f=true) f:=by
 unfold chkCall at h
 split at h
 ·rename_i fn hf
  simp only [Bool.and_eq_true,Bool.or_eq_true,Bool.not_eq_true',Option.isNone_iff_eq_none] at h
  obtain ⟨h1,h2⟩:=h
  refine ⟨fn,hf,h1,?_⟩
  rcases h2 with ⟨a,b⟩|⟨⟨⟨a,b⟩,c⟩,d⟩
  ·exact .inl ⟨a,b⟩
  ·refine .inr ⟨by rw [a];rfl,b,c,?_⟩
   exact d
 ·cases h
theorem methOk_of {P:Program}{S:FuncId→Bool}{meths:List String}(h:chkMeth P S meths=true):∀ m∈meths,MethOk P (CallOk P (fun f=>S f=true)) m:=by
 intro name hn t i m f b hi hm hf
 by_cases ht:t<P.types.size
 ·have hi':P.types[t]?=some i:=by
   have:P.info? t=_:=hi
   unfold Tables.info? at this
   rw [if_pos ht] at this
   exact this
  unfold chkMeth at h
  rw [Array.all_eq_true_iff_forall_mem] at h
  have h1:=h i (Array.mem_of_getElem? hi')
  rw [Array.all_eq_true_iff_forall_mem] at h1
  have hmem:m∈i.methods:=Array.mem_of_find?_eq_some hm
  have h2:=h1 m hmem
  have hname:(m.name == name)=true:=by
   have:=Array.find?_some hm
   exact this
  rw [hf] at h2
  have e:m.name=name:=by simpa using hname
  rw [e] at h2
  have hc:meths.contains name=true:=by simpa using hn
  rw [hc] at h2
  exact callOk_of (by simpa using h2)
 ·have:=made_methods (T:=P.toTables) (Nat.le_of_not_lt ht) hi
  rw [this] at hm
  simp at hm
theorem bodies:goods.all (chkBody Tryd.prog Sg ms)=true:=by kernel_rfl
theorem meths_ok:chkMeth Tryd.prog Sg ms=true:=by kernel_rfl
theorem rules:Rules Tryd.prog Sg ms true:=by
 refine ⟨fun f hf=>?_,methOk_of meths_ok⟩
 have h:=List.all_eq_true.1 bodies f (by simpa [Sg] using hf)
 unfold chkBody at h
 split at h
 ·rename_i fn hfn
  rw [Bool.and_eq_true] at h
  obtain ⟨h1,h2⟩:=h
  split at h2
  ·rename_i c hc
   exact ⟨fn,c,hfn,by simpa using h1,hc,h2⟩
  ·cases h2
 ·cases h
end Go.Proofs.YtcgabodkegcpgaaDoor.Br
namespace Go.Proofs.YtcgabodkegcpgaaDoor
open Go.RowKit
set_option linter.unusedVariables false
set_option maxHeartbeats 20000000
section
variable {bk bf bs bd:Nat} {K:Ker} {w:World}
theorem Rep.d0 (R:Rep w bk bf bs bd K){i:Nat}(hi:i<K.nD):w.cell? ⟨bd,i*5,none⟩=some (.int .i64 (K.D i 0)):=R.d i 0 hi (by omega)
theorem Rep.d1 (R:Rep w bk bf bs bd K){i:Nat}(hi:i<K.nD):w.cell? ⟨bd,i*5+1,none⟩=some (.int .i64 (K.D i 1)):=R.d i 1 hi (by omega)
theorem Rep.d2 (R:Rep w bk bf bs bd K){i:Nat}(hi:i<K.nD):w.cell? ⟨bd,i*5+2,none⟩=some (.int .i64 (K.D i 2)):=R.d i 2 hi (by omega)
theorem Rep.d3 (R:Rep w bk bf bs bd K){i:Nat}(hi:i<K.nD):w.cell? ⟨bd,i*5+3,none⟩=some (.int .i64 (K.D i 3)):=R.d i 3 hi (by omega)
theorem Rep.d4 (R:Rep w bk bf bs bd K){i:Nat}(hi:i<K.nD):w.cell? ⟨bd,i*5+4,none⟩=some (.int .i64 (K.D i 4)):=R.d i 4 hi (by omega)
theorem Rep.noDuct (R:Rep w bk bf bs bd K){d:Nat}(hd:d<K.nD)(f:Int) :
  Rep (((((w.setCell ⟨bd,d*5,none⟩ (.int .i64 f)).setCell ⟨bd,d*5+1,none⟩ (.int .i64 0)).setCell ⟨bd,d*5+2,none⟩ (.int .i64 0)).setCell ⟨bd,d*5+3,none⟩ (.int .i64 0)).setCell ⟨bd,d*5+4,none⟩ (.int .i64 0)) bk bf bs bd (K.noDuct d f):=by
 have Ra:=R.setD (c:=0) (o:=d*5) hd (by omega) rfl f
 have ha:d<(K.setD d 0 f).nD:=hd
 have Rb:=Ra.setD (c:=1) (o:=d*5+1) ha (by omega) rfl 0
 have hb:d<((K.setD d 0 f).setD d 1 0).nD:=ha
 have Rc:=Rb.setD (c:=2) (o:=d*5+2) hb (by omega) rfl 0
 have hc:d<(((K.setD d 0 f).setD d 1 0).setD d 2 0).nD:=hb
 have Rd:=Rc.setD (c:=3) (o:=d*5+3) hc (by omega) rfl 0
 have he:d<((((K.setD d 0 f).setD d 1 0).setD d 2 0).setD d 3 0).nD:=hc
 exact Rd.setD (c:=4) (o:=d*5+4) he (by omega) rfl 0
theorem countEnd_rep (R:Rep w bk bf bs bd K){d:Nat}(b:Bool)(m:Int)(hd:d<K.nD)(hm:-1≤m∧m≤1)(h3:0≤K.D d 3∧K.D d 3≤24)(h4:0≤K.D d 4∧K.D d 4≤24) :
  Calls Tryd.prog 77 #[.pointer (some ⟨bk,0,none⟩),.agg #[.int .i64 d,.bool b],.int .i64 m] w fun e w'=>e=.returned (.tuple #[])∧Rep w' bk bf bs bd (K.count d b m)∧Keeps bf bs bd w w':=by
 have HR:Hid (Rep w bk bf bs bd K):=R
 have hn:=R.hD
 have k2:=fun o=>(HR.out.alloc o).k2
 have c3:=fun o=>(HR.out.alloc o).d3 hd
 have c4:=fun o=>(HR.out.alloc o).d4 hd
 have z:=fun o=>(HR.out.alloc o).zd
 clear R
 obtain ⟨hm1,hm2⟩:=hm
 obtain ⟨h31,h32⟩:=h3
 obtain ⟨h41,h42⟩:=h4
 cases b
 ·go_enter Tryd.func77,Tryd.ntmps77
  go_wp2
  go_region
  all_goals
   go_wp2
   go_end0
   exact ⟨rfl,(HR.out.alloc _).drew.setD hd (by omega) rfl _,((Keeps.refl w).alloc _).drew.setD _ _⟩
 ·go_enter Tryd.func77,Tryd.ntmps77
  go_wp2
  go_region
  all_goals
   go_wp2
   go_end0
   exact ⟨rfl,(HR.out.alloc _).drew.setD hd (by omega) rfl _,((Keeps.refl w).alloc _).drew.setD _ _⟩
theorem openFile_rep (R:Rep w bk bf bs bd K){s x d:Nat}(b:Bool)(hs:s<K.nS)(hx:x<4)(hd:d<K.nD)(h3:0≤K.D d 3∧K.D d 3≤24)(h4:0≤K.D d 4∧K.D d 4≤24) :
  Calls Tryd.prog 71 #[.pointer (some ⟨bk,0,none⟩),.int .i64 s,.int .i64 x,.agg #[.int .i64 d,.bool b]] w fun e w'=>e=.returned (.tuple #[])∧Rep w' bk bf bs bd (K.openFile s x d b)∧Keeps bf bs bd w w':=by
 have HR:Hid (Rep w bk bf bs bd K):=R
 have hn:=R.hS
 have k1:=fun o=>(HR.out.alloc o).k1
 have c3:=fun o=>(HR.out.alloc o).ff hs hx
 have c4:=fun o=>(HR.out.alloc o).fe hs hx
 have z:=fun o=>(HR.out.alloc o).zs
 have ne:bs≠w.heap.size:=Nat.ne_of_lt R.ls
 have ne':w.heap.size≠bs:=fun e=>ne e.symm
 have H3:=h3
 have H4:=h4
 clear R
 go_enter Tryd.func71,Tryd.ntmps71
 go_wp2
 go_region
 all_goals
  go_wp2_with fail
  refine (countEnd_rep (K:=K.setFile s x d b) (((HR.out.alloc _).setS (c:=11+x*2) hs (by omega) (not_isBf x) (by omega) _).setB (c:=12+x*2) hs (isBf x hx) (by omega) _).drew b 1 hd (by omega) H3 H4).mono ?_
  rintro e w1 ⟨rfl,R1,q1⟩
  go_wp2
  go_end0
  exact ⟨rfl,R1,((((Keeps.refl w).alloc _).setS _ _).setS _ _).drew.trans q1⟩
theorem isFile_at (R:Rep w bk bf bs bd K){i p:Nat}{q:Int}(hi:i<K.nS)(hq:q=p)(hp:p<4) :
  Calls Tryd.prog 70 #[.pointer (some ⟨bk,0,none⟩),.int .i64 i,.int .i64 q] w fun e w'=>e=.returned (.bool (K.S i (11+p*2) != -1))∧w'=w:=by
 subst hq;exact isFile_rep R hi hp
theorem openFile_at (R:Rep w bk bf bs bd K){s x d:Nat}{q:Int}(b:Bool)(hs:s<K.nS)(hq:q=x)(hx:x<4)(hd:d<K.nD)(h3:0≤K.D d 3∧K.D d 3≤24)(h4:0≤K.D d 4∧K.D d 4≤24) :
  Calls Tryd.prog 71 #[.pointer (some ⟨bk,0,none⟩),.int .i64 s,.int .i64 q,.agg #[.int .i64 d,.bool b]] w fun e w'=>e=.returned (.tuple #[])∧Rep w' bk bf bs bd (K.openFile s x d b)∧Keeps bf bs bd w w':=by
 subst hq;exact openFile_rep R b hs hx hd h3 h4
theorem noDuct_bounds (K:Ker)(n:Nat)(f:Int):(0≤(K.noDuct n f).D n 3∧(K.noDuct n f).D n 3≤24)∧(0≤(K.noDuct n f).D n 4∧(K.noDuct n f).D n 4≤24):=by
 simp [Ker.noDuct,Ker.setD,upd]
theorem noDuct_bounds2 (K:Ker)(n:Nat)(f:Int)(s x:Nat):(0≤((K.noDuct n f).openFile s x n false).D n 3∧((K.noDuct n f).openFile s x n false).D n 3≤24)∧(0≤((K.noDuct n f).openFile s x n false).D n 4∧((K.noDuct n f).openFile s x n false).D n 4≤24):=by
 simp [Ker.noDuct,Ker.openFile,Ker.count,Ker.setFile,Ker.setS,Ker.setB,Ker.setD,upd]
theorem pipe_rep (R:Rep w bk bf bs bd K)(G:Good K){s n f x:Nat}(hs:s<K.nS)(hn:n<K.nD)(hf:f<K.nF)(hx:x<4) :
  Calls Tryd.prog 56 #[.pointer (some ⟨bk,0,none⟩),.int .i64 s,.agg #[.int .i64 n,.int .i64 f,.int .i64 x]] w (Ends bk bf bs bd w (kPipe K s n f x)):=by
 have HR:Hid (Rep w bk bf bs bd K):=R
 have m1:=R.hF;have m2:=R.hS;have m3:=R.hD
 have k2:=fun o=>(HR.out.alloc o).k2
 have c0:=fun o=>(HR.out.alloc o).d0 hn
 clear R
 by_cases h1:K.D n 0=-1
 ·have e1:(K.D n 0 != -1)=false:=by simpa using h1
  by_cases h2:K.F f 0=0
  ·have e2:(K.F f 0 == 0)=true:=by simpa using h2
   by_cases h3:x=3
   ·subst h3
    have E:Hid (kPipe K s n f 3=⟨K,0,8⟩):=by unfold kPipe;simp [h1,h2,Hid]
    clear h1 h2
    go_enter Tryd.func56,Tryd.ntmps56
    go_wp2
    go_quiet (fail)
    go_wp2_with fail
    refine (isFree_rep ((HR.out.alloc _).drewN _) hf).mono ?_
    rintro e w1 ⟨rfl,rfl⟩
    go_wp2
    go_ret2
    exact Ends.mk E ((HR.out.alloc _).drewN _) (((Keeps.refl w).alloc _).drewN _)
   ·have e3:((x:Int)+1 == 4)=false:=by rw [beq_eq_false_iff_ne];omega
    by_cases h4:K.file s x=-1
    ·have e4:(K.S s (11+x*2) != -1)=false:=by simpa [Ker.file] using h4
     by_cases h5:K.file s (x+1)=-1
     ·have e5:(K.S s (11+(x+1)*2) != -1)=false:=by simpa [Ker.file] using h5
      have E:Hid (kPipe K s n f x=⟨(((K.become f 3 (-1)).noDuct n f).openFile s x n false).openFile s (x+1) n true,0,0⟩):=by unfold kPipe;simp [h1,h2,h3,h4,h5,Hid]
      clear h1 h2 h4 h5
      go_enter Tryd.func56,Tryd.ntmps56
      go_wp2
      go_quiet (fail)
      go_wp2_with fail
      refine (isFree_rep ((HR.out.alloc _).drewN _) hf).mono ?_
      rintro e w1 ⟨rfl,rfl⟩
      go_wp2_with fail
      refine (isFile_rep ((HR.out.alloc _).drewN _) hs hx).mono ?_
      rintro e w1 ⟨rfl,rfl⟩
      go_wp2_with fail
      refine (isFile_at (p:=x+1) ((HR.out.alloc _).drewN _) hs (by omega) (by omega)).mono ?_
      rintro e w1 ⟨rfl,rfl⟩
      go_wp2_with fail
      refine (become_rep ((HR.out.alloc _).drewN _) _ _ hf).mono ?_
      rintro e w1 ⟨rfl,R1,q1⟩
      have r0:=R1.k2
      have r1:=R1.d0 hn
      have r2:=R1.d1 hn
      have r3:=R1.d2 hn
      have r4:=R1.d3 hn
      have r5:=R1.d4 hn
      have r6:=R1.zd
      have r7:n<(K.become f 3 (-1)).nD:=hn
      have r8:(K.become f 3 (-1)).nD≤4:=m3
      have r9:s<(K.become f 3 (-1)).nS:=hs
      generalize K.become f 3 (-1)=K1 at *
      have t1:n<(K1.noDuct n f).nD:=r7
      have t2:s<(K1.noDuct n f).nS:=r9
      have T1:=noDuct_bounds K1 n f
      have T2:=noDuct_bounds2 K1 n f s x
      have R2:=R1.noDuct r7 f
      have HR2:Hid _:=R2
      clear R2
      have t3:n<((K1.noDuct n f).openFile s x n false).nD:=t1
      have t4:s<((K1.noDuct n f).openFile s x n false).nS:=t2
      have HT1:Hid _:=T1
      have HT2:Hid _:=T2
      clear T1 T2
      have HK1:Hid _:=q1
      have HR1:Hid _:=R1
      clear q1 R1
      go_wp2_with fail
      refine (openFile_rep HR2.out false t2 hx t1 HT1.out.1 HT1.out.2).mono ?_
      rintro e w2 ⟨rfl,R3,q3⟩
      have HR3:Hid _:=R3
      have HK3:Hid _:=q3
      clear R3 q3
      go_wp2_with fail
      refine (openFile_at (x:=x+1) HR3.out true t4 (by omega) (by omega) t3 HT2.out.1 HT2.out.2).mono ?_
      rintro e w3 ⟨rfl,R4,q4⟩
      have HR4:Hid _:=R4
      have HK4:Hid _:=q4
      clear R4 q4
      go_wp2
      go_ret2
      exact Ends.mk E HR4.out (((((((((((Keeps.refl w).alloc _).drewN _).trans HK1.out).setD _ _).setD _ _).setD _ _).setD _ _).setD _ _).trans HK3.out).trans HK4.out)
     ·have e5:(K.S s (11+(x+1)*2) != -1)=true:=by simpa [Ker.file] using h5
      have E:Hid (kPipe K s n f x=⟨K,0,8⟩):=by unfold kPipe;simp [h1,h2,h3,h4,h5,Hid]
      clear h1 h2 h4 h5
      go_enter Tryd.func56,Tryd.ntmps56
      go_wp2
      go_quiet (fail)
      go_wp2_with fail
      refine (isFree_rep ((HR.out.alloc _).drewN _) hf).mono ?_
      rintro e w1 ⟨rfl,rfl⟩
      go_wp2_with fail
      refine (isFile_rep ((HR.out.alloc _).drewN _) hs hx).mono ?_
      rintro e w1 ⟨rfl,rfl⟩
      go_wp2_with fail
      refine (isFile_at (p:=x+1) ((HR.out.alloc _).drewN _) hs (by omega) (by omega)).mono ?_
      rintro e w1 ⟨rfl,rfl⟩
      go_wp2
      go_ret2
      exact Ends.mk E ((HR.out.alloc _).drewN _) (((Keeps.refl w).alloc _).drewN _)
    ·have e4:(K.S s (11+x*2) != -1)=true:=by simpa [Ker.file] using h4
     have E:Hid (kPipe K s n f x=⟨K,0,8⟩):=by unfold kPipe;simp [h1,h2,h3,h4,Hid]
     clear h1 h2 h4
     go_enter Tryd.func56,Tryd.ntmps56
     go_wp2
     go_quiet (fail)
     go_wp2_with fail
     refine (isFree_rep ((HR.out.alloc _).drewN _) hf).mono ?_
     rintro e w1 ⟨rfl,rfl⟩
     go_wp2_with fail
     refine (isFile_rep ((HR.out.alloc _).drewN _) hs hx).mono ?_
     rintro e w1 ⟨rfl,rfl⟩
     go_wp2
     go_ret2
     exact Ends.mk E ((HR.out.alloc _).drewN _) (((Keeps.refl w).alloc _).drewN _)
  ·have e2:(K.F f 0 == 0)=false:=by simpa using h2
   have E:Hid (kPipe K s n f x=⟨K,0,5⟩):=by unfold kPipe;simp [h1,h2,Hid]
   clear h1 h2
   go_enter Tryd.func56,Tryd.ntmps56
   go_wp2
   go_quiet (fail)
   go_wp2_with fail
   refine (isFree_rep ((HR.out.alloc _).drewN _) hf).mono ?_
   rintro e w1 ⟨rfl,rfl⟩
   go_wp2
   go_ret2
   exact Ends.mk E ((HR.out.alloc _).drewN _) (((Keeps.refl w).alloc _).drewN _)
 ·have e1:(K.D n 0 != -1)=true:=by simpa using h1
  have E:Hid (kPipe K s n f x=⟨K,0,9⟩):=by unfold kPipe;simp [h1,Hid]
  clear h1
  go_enter Tryd.func56,Tryd.ntmps56
  go_wp2
  go_quiet (fail)
  go_wp2
  go_ret2
  exact Ends.mk E ((HR.out.alloc _).drewN _) (((Keeps.refl w).alloc _).drewN _)
end
end Go.Proofs.YtcgabodkegcpgaaDoor
