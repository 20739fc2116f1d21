/- Orders that a region may draw: what holds whichever is drawn, told by each operation once. No statement of the program is proved here. -/
import Derived.Conc.CompanyDraw
import Derived.Test.YtcgabodkegcpgaaDoorOqd
import Derived.Test.YtcgabodkegcpgaaDoorOpq
import Derived.Deep.MidRow
namespace Go.Proofs.YtcgabodkegcpgaaDoor.Br
open Go.Conc
set_option linter.unusedVariables false
set_option linter.unusedSimpArgs false
set_option maxHeartbeats 20000000
def unL (ops:Array Oper)(listed:Array Bool):List Nat:=(List.range ops.size).filter fun i=>!listed.getD i true
def Ord (ops:Array Oper)(fuel:Nat)(listed:Array Bool)(rest:List Nat):Prop:=(unL ops listed).length≤fuel∧∃ t,rest=Region.linearise.go .any ops fuel t listed []
theorem ready_un {ops:Array Oper}{listed:Array Bool}{i:Nat}(h:i∈Region.ready .any ops listed):i∈unL ops listed:=by
 unfold Region.ready at h
 unfold unL
 rw [List.mem_filter] at h ⊢
 refine ⟨h.1,?_⟩
 have:=h.2
 simp only [Bool.and_eq_true] at this
 exact this.1
theorem unL_set {ops:Array Oper}{listed:Array Bool}{i:Nat}(h:i∈unL ops listed):(unL ops (listed.setIfInBounds i true)).length+1=(unL ops listed).length:=by
 have hi:listed.getD i true=false:=by
  have:=(List.mem_filter.1 h).2
  simpa using this
 have hlt:i<listed.size:=by
  by_cases e:i<listed.size
  ·exact e
  ·rw [Array.getD_eq_getD_getElem?,Array.getElem?_eq_none (by omega)] at hi;cases hi
 have e:unL ops (listed.setIfInBounds i true)=(unL ops listed).erase i:=by
  have nd:(unL ops listed).Nodup:=List.Pairwise.filter _ List.nodup_range
  rw [List.Nodup.erase_eq_filter nd]
  unfold unL
  rw [List.filter_filter]
  refine List.filter_congr fun j _=>?_
  rw [Array.getD_eq_getD_getElem?,Array.getD_eq_getD_getElem?,Array.getElem?_setIfInBounds]
  by_cases e:i=j
  ·subst e;simp [hlt]
  ·have:(j != i)=true:=by simp [Ne.symm e]
   simp [e,this]
 rw [e,List.length_erase_of_mem h]
 have:0<(unL ops listed).length:=List.length_pos_of_mem h
 omega
theorem Ord.next {ops:Array Oper}{fuel:Nat}{listed:Array Bool}{rest:List Nat}(h:Ord ops fuel listed rest) :
  (rest=[]∧Region.ready .any ops listed=[])∨∃ f i rest',i∈Region.ready .any ops listed∧rest=i::rest'∧fuel=f+1∧Ord ops f (listed.setIfInBounds i true) rest':=by
 obtain ⟨hl,t,rfl⟩:=h
 cases fuel with
 | zero =>
  refine .inl ⟨by simp [Region.linearise.go],?_⟩
  rw [List.eq_nil_iff_forall_not_mem]
  intro i hi
  have:=List.length_pos_of_mem (ready_un hi)
  omega
 | succ f =>
  simp only [Region.linearise.go]
  cases hi:(Region.ready .any ops listed)[t % (Region.ready .any ops listed).length]? with
  | none =>
   have hnil:Region.ready .any ops listed=[]:=by
    cases hr:Region.ready .any ops listed with
    | nil=>rfl
    | cons x xs =>
     rw [hr] at hi
     have hlt:t % (x::xs).length<(x::xs).length:=Nat.mod_lt _ (by simp)
     simp at hi
     simp at hlt
     omega
   refine .inl ⟨?_,hnil⟩
   have hi':=hi
   unfold Region.ready at hi'
   rw [hi'];rfl
  | some i =>
   have hm:i∈Region.ready .any ops listed:=List.mem_of_getElem? hi
   have hu:=unL_set (ready_un hm)
   refine .inr ⟨f,i,Region.linearise.go .any ops f (t / (Region.ready .any ops listed).length) (listed.setIfInBounds i true) [],hm,?_,rfl,by omega,_,rfl⟩
   have hi':=hi
   unfold Region.ready at hi'
   rw [hi']
   show Region.linearise.go .any ops f (t / (Region.ready .any ops listed).length) (listed.setIfInBounds i true) [i]=_
   rw [linearise_go_acc,List.reverse_singleton,List.singleton_append]
theorem ord_any {ops:Array Oper}{J:Act→List Nat→Prop}{Ag:Array Bool→Act→Prop}
  (hstep:∀ f listed a i rest,i∈Region.ready .any ops listed→Ag listed a→Ord ops f (listed.setIfInBounds i true) rest→(∀ a',Ag (listed.setIfInBounds i true) a'→J a' rest)→J a (i::rest))
  (hdone:∀ listed a,Region.ready .any ops listed=[]→Ag listed a→J a []) :
  ∀ fuel listed a rest,Ord ops fuel listed rest→Ag listed a→J a rest:=by
 intro fuel
 induction fuel with
 | zero =>
  intro listed a rest hO hA
  rcases hO.next with ⟨rfl,h⟩|⟨f,i,rest',hi,rfl,hf,hO'⟩
  ·exact hdone listed a h hA
  ·cases hf
 | succ f ih =>
  intro listed a rest hO hA
  rcases hO.next with ⟨rfl,h⟩|⟨f',i,rest',hi,rfl,hf,hO'⟩
  ·exact hdone listed a h hA
  ·obtain rfl:f=f':=by omega
   exact hstep f listed a i rest' hi hA hO' (fun a' hA'=>ih _ a' rest' hO' hA')
theorem ready_lt {ops:Array Oper}{listed:Array Bool}{i:Nat}(h:i∈Region.ready .any ops listed):i<ops.size:=List.mem_range.1 (List.mem_filter.1 h).1
theorem ready_not {ops:Array Oper}{listed:Array Bool}{i:Nat}(h:i∈Region.ready .any ops listed):listed.getD i true=false:=by
 have:=(List.mem_filter.1 (ready_un h)).2
 simpa using this
theorem ready_after {ops:Array Oper}{listed:Array Bool}{i:Nat}{o:Oper}(h:i∈Region.ready .any ops listed)(ho:ops[i]?=some o){j:Nat}(hj:(o.after.any fun e=>Region.binds .any e && e.on == j)=true):listed.getD j false=true:=by
 have:=(List.mem_filter.1 h).2
 simp only [Bool.and_eq_true,ho,Option.map_some,Option.getD_some,Array.all_eq_true_iff_forall_mem] at this
 rw [Array.any_eq_true'] at hj
 obtain ⟨e,he,h1⟩:=hj
 simp only [Bool.and_eq_true,beq_iff_eq] at h1
 obtain ⟨h1,rfl⟩:=h1
 have h2:=this.2 e he
 rw [h1] at h2
 simpa using h2
theorem all_listed {ops:Array Oper}{listed:Array Bool}(hs:(List.range ops.size).all (fun i=>((ops[i]?).map (·.after.all fun e=>!Region.binds .any e || decide (e.on<i))).getD true)=true)(hz:listed.size=ops.size)(h:Region.ready .any ops listed=[]):∀ i,i<ops.size→listed.getD i false=true:=by
 intro i
 induction i using Nat.strongRecOn with
 | _ i ih =>
  intro hi
  rw [List.all_eq_true] at hs
  have h1:=hs i (List.mem_range.2 hi)
  have ho:ops[i]?=some ops[i]:=Array.getElem?_eq_getElem hi
  rw [ho] at h1
  simp only [Option.map_some,Option.getD_some,Array.all_eq_true_iff_forall_mem] at h1
  have h2:i ∉ Region.ready .any ops listed:=by rw [h];exact List.not_mem_nil
  unfold Region.ready at h2
  rw [List.mem_filter] at h2
  have hg:listed.getD i true=listed.getD i false:=by
   rw [Array.getD_eq_getD_getElem?,Array.getD_eq_getD_getElem?,Array.getElem?_eq_getElem (by omega)];rfl
  by_cases e:listed.getD i false=true
  ·exact e
  ·exfalso
   refine h2 ⟨List.mem_range.2 hi,?_⟩
   rw [hg,ho]
   simp only [Bool.and_eq_true,Option.map_some,Option.getD_some,Array.all_eq_true_iff_forall_mem]
   refine ⟨by simpa using e,fun x hx=>?_⟩
   have h3:=h1 x hx
   cases hb:Region.binds .any x with
   | false=>rfl
   | true =>
    rw [hb] at h3
    simp only [Bool.not_true,Bool.false_or,decide_eq_true_eq] at h3 ⊢
    exact ih _ h3 (by omega)
structure Agr (ops:Array Oper) (V:Nat→Value) (base:Array Value) (listed:Array Bool) (a:Act):Prop where
 defs:a.defers=[]
 len:listed.size=ops.size
 size:a.tmps.size=base.size
 done:∀ i o t,ops[i]?=some o→o.dst=some t→listed.getD i false=true→t<base.size→a.tmps[t]?=some (V i)
 still:∀ t,(∀ i o,ops[i]?=some o→o.dst=some t→listed.getD i false=false)→a.tmps[t]?=base[t]?
theorem Agr.start (ops:Array Oper)(V:Nat→Value)(base:Array Value):Agr ops V base (Array.replicate ops.size false) ⟨base,[]⟩:=by
 refine ⟨rfl,by simp,rfl,fun i o t ho ht hl _=>?_,fun _ _=>rfl⟩
 rw [Array.getD_eq_getD_getElem?,Array.getElem?_replicate] at hl
 split at hl<;>cases hl
theorem Agr.val {ops:Array Oper}{V V':Nat→Value}{base:Array Value}{listed:Array Bool}{a:Act}(h:Agr ops V base listed a)(hv:∀ i,listed.getD i false=true→V' i=V i):Agr ops V' base listed a :=
 ⟨h.defs,h.len,h.size,fun i o t ho ht hl hb=>by rw [hv i hl];exact h.done i o t ho ht hl hb,h.still⟩
def oneDst (ops:Array Oper):Bool:=(List.range ops.size).all fun i=>(List.range ops.size).all fun j=>i == j || (match ops[i]?,ops[j]? with|some oi,some oj=>(match oi.dst,oj.dst with|some s,some t=>s != t|_,_=>true)|_,_=>true)
theorem oneDst_spec {ops:Array Oper}(h:oneDst ops=true){i j:Nat}{oi oj:Oper}{t:Nat}(hi:ops[i]?=some oi)(hj:ops[j]?=some oj)(ti:oi.dst=some t)(tj:oj.dst=some t):i=j:=by
 unfold oneDst at h
 rw [List.all_eq_true] at h
 have li:=(Array.getElem?_eq_some_iff.1 hi).1
 have lj:=(Array.getElem?_eq_some_iff.1 hj).1
 have h1:=h i (List.mem_range.2 li)
 rw [List.all_eq_true] at h1
 have h2:=h1 j (List.mem_range.2 lj)
 simp only [hi,hj,ti,tj,Bool.or_eq_true,beq_iff_eq,bne_self_eq_false,Bool.false_eq_true,or_false] at h2
 exact h2
theorem Agr.put {ops:Array Oper}{V:Nat→Value}{base:Array Value}{listed:Array Bool}{a:Act}(h:Agr ops V base listed a)(h1:oneDst ops=true){i:Nat}{o:Oper}(ho:ops[i]?=some o){v:Value}(hv:V i=v):Agr ops V base (listed.setIfInBounds i true) (a.put o.dst v):=by
 subst hv
 have li:i<listed.size:=by rw [h.len];exact (Array.getElem?_eq_some_iff.1 ho).1
 have hg:∀ j,(listed.setIfInBounds i true).getD j false=if i=j then true else listed.getD j false:=fun j=>by
  rw [Array.getD_eq_getD_getElem?,Array.getElem?_setIfInBounds]
  by_cases e:i=j
  ·subst e;simp [li]
  ·simp [e]
 refine ⟨?_,by simp [h.len],?_,fun j oj t hj tj hl hb=>?_,fun t ht=>?_⟩
 ·unfold Act.put;split<;>exact h.defs
 ·unfold Act.put;split<;>simp [h.size]
 ·rw [hg] at hl
  by_cases e:i=j
  ·subst e
   rw [ho] at hj;obtain rfl:=Option.some.inj hj
   unfold Act.put;rw [tj]
   simp [h.size,hb]
  ·rw [if_neg e] at hl
   have h0:=h.done j oj t hj tj hl hb
   unfold Act.put
   split
   ·rename_i d hd
    have:d≠t:=fun e'=>e (oneDst_spec h1 ho hj (e'▸hd) tj)
    simp only [Array.getElem?_setIfInBounds_ne this]
    exact h0
   ·exact h0
 ·have h0:∀ j oj,ops[j]?=some oj→oj.dst=some t→listed.getD j false=false:=fun j oj hj tj=>by
   have:=ht j oj hj tj
   rw [hg] at this
   by_cases e:i=j
   ·rw [if_pos e] at this;cases this
   ·rw [if_neg e] at this;exact this
  have h2:=h.still t h0
  unfold Act.put
  split
  ·rename_i d hd
   have:d≠t:=fun e'=>by
    have:=ht i o ho (e'▸hd)
    rw [hg,if_pos rfl] at this;cases this
   simp only [Array.getElem?_setIfInBounds_ne this]
   exact h2
  ·exact h2
theorem Agr.tmp {ops:Array Oper}{V:Nat→Value}{base:Array Value}{listed:Array Bool}{a:Act}(h:Agr ops V base listed a){j t:Nat}{o:Oper}{v:Value}(ho:ops[j]?=some o)(ht:o.dst=some t)(hl:listed.getD j false=true)(hb:t<base.size)(hv:V j=v):a.eval (.tmp t)=v:=by
 show a.tmps.getD t undef=v
 rw [Array.getD_eq_getD_getElem?,h.done j o t ho ht hl hb,← hv];rfl
theorem Agr.base {ops:Array Oper}{V:Nat→Value}{base:Array Value}{listed:Array Bool}{a:Act}(h:Agr ops V base listed a){t:Nat}{v:Value}(hn:((List.range ops.size).all fun i=>((ops[i]?).map (fun o=>o.dst != some t)).getD true)=true)(hv:base[t]?=some v):a.eval (.tmp t)=v:=by
 show a.tmps.getD t undef=v
 rw [Array.getD_eq_getD_getElem?,h.still t ?_,hv];· rfl
 intro i o ho ht
 rw [List.all_eq_true] at hn
 have:=hn i (List.mem_range.2 (Array.getElem?_eq_some_iff.1 ho).1)
 rw [ho] at this
 simp [ht] at this
def fill (ops:Array Oper)(V:Nat→Value)(base:Array Value):Array Value:=(base.toList.zipIdx.map fun (x,t)=>match (List.range ops.size).find? (fun i=>((ops[i]?).map (fun o=>o.dst == some t)).getD false) with|some i=>V i|none=>x).toArray
theorem Agr.full {ops:Array Oper}{V:Nat→Value}{base:Array Value}{listed:Array Bool}{a:Act}(h:Agr ops V base listed a)(hl:∀ i,i<ops.size→listed.getD i false=true):a=⟨fill ops V base,[]⟩:=by
 obtain ⟨tm,df⟩:=a
 obtain rfl:df=[]:=h.defs
 refine congrArg (fun x=>(⟨x,[]⟩:Act)) ?_
 apply Array.ext_getElem?
 intro t
 rcases Nat.lt_or_ge t base.size with hb|hb
 rotate_left
 ·rw [Array.getElem?_eq_none (by have:=h.size;simp only at this;omega),Array.getElem?_eq_none (by simp [fill];omega)]
 ·have e:(fill ops V base)[t]?=some (match (List.range ops.size).find? (fun i=>((ops[i]?).map (fun o=>o.dst == some t)).getD false) with|some i=>V i|none=>base[t]):=by
   simp only [fill,List.getElem?_toArray,List.getElem?_map,List.getElem?_zipIdx,Nat.zero_add,Array.getElem?_toList,Array.getElem?_eq_getElem hb,Option.map_some]
  rw [e]
  cases hf:(List.range ops.size).find? (fun i=>((ops[i]?).map (fun o=>o.dst == some t)).getD false) with
  | some i =>
   have h1:=List.find?_some hf
   have h2:=List.mem_range.1 (List.mem_of_find?_eq_some hf)
   rw [Array.getElem?_eq_getElem h2] at h1
   simp only [Option.map_some,Option.getD_some,beq_iff_eq] at h1
   exact h.done i _ t (Array.getElem?_eq_getElem h2) h1 (hl i h2) hb
  | none =>
   have:=h.still t (fun i o ho ht=>by
    have h3:=List.find?_eq_none.1 hf i (List.mem_range.2 (Array.getElem?_eq_some_iff.1 ho).1)
    rw [ho] at h3
    simp [ht] at h3)
   simp only at this ⊢
   rw [this,Array.getElem?_eq_getElem hb]
theorem ready_no {ops:Array Oper}{listed:Array Bool}{i:Nat}(h:i∈Region.ready .any ops listed)(h1:listed.getD i false=true):False:=by
 have h0:=ready_not h
 rw [Array.getD_eq_getD_getElem?] at h0 h1
 cases e:listed[i]? with
 | none=>rw [e] at h1;cases h1
 | some x=>rw [e] at h0 h1;simp at h0 h1;rw [h0] at h1;cases h1
theorem ready_off {ops:Array Oper}{listed:Array Bool}{i:Nat}{o:Oper}(h:i∈Region.ready .any ops listed)(ho:ops[i]?=some o){j:Nat}(h1:listed.getD j false=false)(hj:(o.after.any fun e=>Region.binds .any e && e.on == j)=true):False:=by
 rw [ready_after h ho hj] at h1;cases h1
theorem set_on {listed:Array Bool}{i j:Nat}(h:listed.getD j false=true):(listed.setIfInBounds i true).getD j false=true:=by
 rw [Array.getD_eq_getD_getElem?] at h ⊢
 rw [Array.getElem?_setIfInBounds]
 split
 ·split<;>simp_all
 ·exact h
theorem set_off {listed:Array Bool}{i j:Nat}(h:listed.getD j false=false)(e:i≠j):(listed.setIfInBounds i true).getD j false=false:=by
 rw [Array.getD_eq_getD_getElem?] at h ⊢
 rw [Array.getElem?_setIfInBounds,if_neg e]
 exact h
theorem set_now {ops:Array Oper}{listed:Array Bool}{i:Nat}(h:i∈Region.ready .any ops listed):(listed.setIfInBounds i true).getD i false=true:=by
 have h0:=ready_not h
 rw [Array.getD_eq_getD_getElem?] at h0 ⊢
 rw [Array.getElem?_setIfInBounds,if_pos rfl]
 split
 ·rfl
 ·rw [Array.getElem?_eq_none (by omega)] at h0;cases h0
theorem ord_start {P:Program}(hm:P.follows .mixedOrders=true)(ops:Array Oper)(t:Nat):Ord ops ops.size (Array.replicate ops.size false) (Region.schedule (P.follows .mixedOrders) ops t):=by
 refine ⟨?_,t,?_⟩
 ·unfold unL
  exact Nat.le_trans (List.length_filter_le _ _) (by simp)
 ·simp only [Region.schedule,hm,Bool.true_or,if_true];rfl
end Go.Proofs.YtcgabodkegcpgaaDoor.Br
namespace Go.Proofs.YtcgabodkegcpgaaDoor
open Go.Conc Go.RowKit
open Br (OpD KO SO SP sfO Lk Fit Must DL Liv Clear)
set_option linter.unusedVariables false
set_option linter.unusedSimpArgs false
set_option maxHeartbeats 20000000
section
variable {C:Ctx} {n:Nat} {s:Strat} {pv:List Nat} {H:Heap} {free:Value} {go:Bool} {g:Goroutine}
theorem good_fewer {pv':List Nat}{H':Heap}(hs:∀ i∈pv',i∈pv)(hH':∀ i∈pv',H i=H' i)(h:Good' C n s pv' H' free go g):Good' C n s pv H free go g:=by
 have key:∀ {l K un go w},Sta C l K pv H free un go w→Sta C l K pv' H' free un go w:=by
  rintro l K un go w ⟨H1,A,hH⟩
  refine ⟨H1,A.fewer (fun i hi=>?_) (List.mem_cons_self ..) (fun _ _=>rfl),fun i hi=>?_⟩
  ·rcases List.mem_cons.1 hi with rfl|hi
   ·exact List.mem_cons_self ..
   ·exact List.mem_cons_of_mem _ (hs i hi)
  ·obtain ⟨h1,h2⟩:=hH i (hs i hi)
   exact ⟨h1,by rw [h2,hH' i hi]⟩
 have sub:∀ {pv0 w0},Sub (C.o.bo::pv) pv0 w0→Sub (C.o.bo::pv') pv0 w0:=fun h i hi=>by
  rcases List.mem_cons.1 hi with rfl|hi
  ·exact h _ (List.mem_cons_self ..)
  ·exact h _ (List.mem_cons_of_mem _ (hs i hi))
 exact ⟨fun m l w0 pv0 T K un w hm St M S P d=>h.1 m l w0 pv0 T K un w hm (key St) M (sub S) P d,fun hgo l w0 pv0 K un w St M S d=>h.2 hgo l w0 pv0 K un w (key St) M (sub S) d⟩
theorem good_nil {H':Heap}(h:Good' C n s [] H' free go g):Good' C n s pv H free go g:=good_fewer (fun i hi=>by cases hi) (fun i hi=>by cases hi) h
section
variable {ops:Array Oper} {i:Nat} {o:Oper} {a:Act} {b:Frame} {rest:List Nat} {k:List Item} {cs:List Frame}
theorem good_pure {v:Value}(ho:ops[i]?=some o)(hg:o.guard=none)(hk:b.kind≠.early)(hop:Br.okOp Tryd.prog (fun _=>false) [] false o.op=true)
  (hv:∀ l K un w d,Sta C l K pv H free un go w→(execOp a.eval o).run Tryd.prog (w.at d)=.ok (.value v) (w.at d))
  (hn:Good' C n s pv H free go (G (b.at (a.put o.dst v) (.inRegion ops rest::k)) cs)):Good' C n s pv H free go (G (b.at a (.inRegion ops (i::rest)::k)) cs) :=
 good_still (fun l K un w Stop St hd d=>Br.must_oper ho (by unfold Region.wanted;rw [hg]) hk hop St.clear (fun d K' hK=>by rw [hv l K un w d St];exact hK _ _ ⟨rfl,hd d⟩) d) hn
theorem good_loadrow {ty:TypeId}{x:Operand}{b0:Nat}{c:Array Value}{t:TypeId}{f:Nat × Nat}{ms:List Value}{d0:TypeDesc}(ho:ops[i]?=some o)(hg:o.guard=none)(hk:b.kind≠.early)(hop:o.op=.load ty x)
  (hx:a.eval x=.pointer (some ⟨b0,0,none⟩))(hb:b0∈pv)(hH:H b0=.cells c t f)(hms:∀ (j:Nat) (v:Value),ms[j]?=some v→c[j]?=some v)(hu:Tryd.prog.underlying ty=some d0)(hd:d0.isRow=true)(hi:(Tryd.prog.info? ty).map (·.size)=some ms.length)
  (hn:Good' C n s pv H free go (G (b.at (a.put o.dst (.agg ms.toArray)) (.inRegion ops rest::k)) cs)):Good' C n s pv H free go (G (b.at a (.inRegion ops (i::rest)::k)) cs):=by
 refine good_pure ho hg hk (by rw [hop];rfl) (fun l K un w d St=>?_) hn
 have hr:(w.at d).rangeAt b0 0 ms:=fun j v hj=>by
  rw [Nat.zero_add];exact St.cell hb hH (hms j v hj)
 unfold execOp
 simp only [hop,hx,Instr.loadAt,Instr.sureAddr,Sem.run_bind,Sem.run_pure,Result.andThen_ok,run_loadVar_mid (w.at d) b0 0 ty ms d0 hr hu hd hi]
theorem must_draw {main st:Bool}{sft:Nat→Nat}{Stop:Goroutine→World→Prop}{id:Nat}{w:World}(h:∀ t d,Must Tryd.prog main (DL st sft) Stop (G (b.at a (.inRegion ops (Region.schedule (Tryd.prog.follows .mixedOrders) ops t)::k)) cs) (w.at d))(d0:Nat) :
  Must Tryd.prog main (DL st sft) Stop (G (b.at a (.code (.region id ops true)::k)) cs) (w.at d0) :=
 .step (fun d=>G (b.at a (.inRegion ops (Region.schedule (Tryd.prog.follows .mixedOrders) ops ((w.at d).tape (w.at d).drawn (.order b.fn id)))::k)) cs) (fun d=>w.at ((w.at d).drawn+1)) (fun _=>#[]) rfl (fun d=>stepG_region_draw) (fun d=>⟨.of_heap _ rfl,fun e he=>by simp at he,rfl⟩) (fun d=>h _ _)
theorem good_draw {id:Nat}(hm:Tryd.prog.follows .mixedOrders=true)(h:∀ rest,Br.Ord ops ops.size (Array.replicate ops.size false) rest→Good' C n s pv H free go (G (b.at a (.inRegion ops rest::k)) cs)) :
  Good' C n s pv H free go (G (b.at a (.code (.region id ops true)::k)) cs):=by
 refine ⟨fun m l w0 pv0 T K un w hm' St M S P d=>?_,fun hgo l w0 pv0 K un w St M S d=>?_⟩
 ·refine must_draw (fun t d=>?_) d
  exact (h _ (Br.ord_start hm ops t)).1 m l w0 pv0 T K un w hm' St M S P d
 ·refine must_draw (fun t d=>?_) d
  exact (h _ (Br.ord_start hm ops t)).2 hgo l w0 pv0 K un w St M S d
end
end
attribute [local go_sem ↓] Go.wp_at_zero Go.wp_at_succ
section
variable {C:Ctx} {n:Nat} {pv:List Nat} {H:Heap} {free:Value} {go:Bool}
def forkE (child:Int)(ps fs:List Int)(e:Int):M (Int × Int):=if e=0 then M.pure (child,0) else (backM child ps fs e).bind fun e'=>M.pure (0,e')
def forkD (child:Int)(ps fs:List Int)(e:Int):M (Int × Int):=if e=0 then (callM 8 child 0 0).bind fun c=>forkE child ps fs c.2 else forkE child ps fs e
def forkC (child:Int)(ps fs:List Int)(e:Int):M (Int × Int):=if e=0 then (giveM child fs 0).bind fun q=>forkD child ps (fs.take q.1) q.2 else forkD child ps [] e
def forkM (K0:Ker)(p:Nat)(xs:List Int):M (Int × Int):=(spawnM K0 K0.nS 0 xs).bind fun z=>if z.1.2=0 then (copyM z.1.1 (pagesL K0 p) 0 z.2).bind fun y=>forkC z.1.1 ((pagesL K0 p).take y.1.1) (filesL K0 p) y.1.2 else M.pure (0,z.1.2)
noncomputable def forkT2:Code :=
 match Tryd.f79.body with
 | some (.seq _ (.seq _ (.seq _ (.seq _ (.seq _ (.seq _ (.seq _ (.seq _ c))))))))=>c
 | _=>.skip
noncomputable def forkT1:Code :=
 match Tryd.f79.body with
 | some (.seq _ (.seq _ (.seq _ (.seq _ (.seq _ (.seq _ (.seq _ c)))))))=>c
 | _=>.skip
set_option maxRecDepth 100000 in
theorem fork_end (child e:Int)(ps fs:Sl)(hps:ps.ok pv H)(hfs:fs.ok pv H)(fr:Frame)(cs:List Frame)(k:Int × Int→Bool→Strat)
  (hn:∀ x e free' go',Good' C n (k (x,e) go') [] H free' go' (G (fr.finish (.tuple #[.int .i64 x,.int .i64 e])) cs))(j1 j2 j3 j8 j11 j12 j13 j14 j15 j16 j17 j18 j19 j20 j21 j22 j23 j24 j25 j26 j27 j28 j29 j30 j31 j32 j33 j34 j35 j36 j37 j38 j39 j40 j41 j42 j43 j44 j45 j46 j47 j48 j49 j50 j51 j52 j53 j54:Value) :
  Good' C n ((forkE child ps.xs fs.xs e).then go k) pv H free go (G ((base 79).at ⟨#[pO C.o,j1,j2,j3,.int .i64 0,.int .i64 0,.int .i64 child,.int .i64 e,j8,ps.val,fs.val,j11,j12,j13,j14,j15,j16,j17,j18,j19,j20,j21,j22,j23,j24,j25,j26,j27,j28,j29,j30,j31,j32,j33,j34,j35,j36,j37,j38,j39,j40,j41,j42,j43,j44,j45,j46,j47,j48,j49,j50,j51,j52,j53,j54,undef,undef,undef,undef,undef,undef,undef,undef,undef],[]⟩ [.code forkT2]) (fr::cs)):=by
 unfold forkE forkT2
 simp only [Tryd.f79,pO]
 apply good_still
 ·intro l K un w Stop St hd d
  have hc:=St.clear
  refine Br.liv_seq (fun d=>?_) _
  refine Br.liv_seq (fun d=>?_) _
  refine Br.liv_region (fun d=>?_) _
  simp only [Br.rz,Br.ix,Nat.reduceAdd]
  refine Br.mo rfl rfl hc (fun d K' hK=>?_) _
  go_simp
  refine hK _ _ ⟨rfl,?_⟩
  clear hK K'
  refine Br.mo rfl rfl hc (fun d K' hK=>?_) _
  go_simp
  refine hK _ _ ⟨rfl,?_⟩
  clear hK K'
  refine Br.liv_region_end (fun d=>?_) _
  exact hd _
 by_cases he:e=0
 ·subst he
  rw [if_pos rfl,M.pure_then]
  apply good_still
  ·intro l K un w Stop St hd d
   have hc:=St.clear
   refine Br.mc rfl (fun u=>stepG_cond (t:=false) rfl) (fun d=>?_) _
   simp only [if_true,if_false,Bool.false_eq_true,↓reduceIte]
   refine Br.liv_skip (fun d=>?_) _
   refine Br.liv_seq (fun d=>?_) _
   refine Br.liv_region (fun d=>?_) _
   simp only [Br.rz,Br.ix,Nat.reduceAdd]
   refine Br.mo rfl rfl hc (fun d K' hK=>?_) _
   go_simp
   refine hK _ _ ⟨rfl,?_⟩
   clear hK K'
   refine Br.mo rfl rfl hc (fun d K' hK=>?_) _
   go_simp
   refine hK _ _ ⟨rfl,?_⟩
   clear hK K'
   refine Br.mo rfl rfl hc (fun d K' hK=>?_) _
   go_simp
   refine hK _ _ ⟨rfl,?_⟩
   clear hK K'
   refine Br.liv_region_end (fun d=>?_) _
   refine Br.liv_ret (fun d=>?_) _
   exact Br.liv_leave (v:=.tuple #[.int .i64 child,.int .i64 0]) rfl rfl Tryd.func79 (resultsC_tmp2 (t:=4) (u:=5) rfl _) hd _
   done
  exact good_nil (hn child 0 free go)
 ·rw [if_neg he,M.bind_then]
  have hb:(e != 0)=true:=by simp [he]
  apply good_still
  ·intro l K un w Stop St hd d
   have hc:=St.clear
   refine Br.mc rfl (fun u=>stepG_cond (t:=true) (by simpa [Act.eval] using hb)) (fun d=>?_) _
   simp only [if_true]
   refine Br.liv_seq (fun d=>?_) _
   refine Br.liv_region (fun d=>?_) _
   simp only [Br.rz,Br.ix,Nat.reduceAdd]
   refine Br.mo rfl rfl hc (fun d K' hK=>?_) _
   go_simp
   refine hK _ _ ⟨rfl,?_⟩
   clear hK K'
   refine Br.mo rfl rfl hc (fun d K' hK=>?_) _
   go_simp
   refine hK _ _ ⟨rfl,?_⟩
   clear hK K'
   refine Br.mo rfl rfl hc (fun d K' hK=>?_) _
   go_simp
   refine hK _ _ ⟨rfl,?_⟩
   clear hK K'
   refine Br.mo rfl rfl hc (fun d K' hK=>?_) _
   go_simp
   refine hK _ _ ⟨rfl,?_⟩
   clear hK K'
   refine Br.mo rfl rfl hc (fun d K' hK=>?_) _
   go_simp
   refine hK _ _ ⟨rfl,?_⟩
   clear hK K'
   refine Br.mc rfl (fun u=>stepG_call rfl rfl (by decide) rfl Tryd.func91 rfl rfl (vs:=#[pO C.o,.int .i64 child,ps.val,fs.val,.int .i64 e]) (by simp [Act.eval]) u) (fun d=>?_) _
   exact hd _
  refine good_back child e ps fs hps hfs _ _ _ (fun e' go'=>?_)
  rw [Frame.finish_at,M.pure_then]
  apply good_still
  ·intro l K un w Stop St hd d
   have hc:=St.clear
   go_simp
   refine Br.mo rfl rfl hc (fun d K' hK=>?_) _
   go_simp
   refine hK _ _ ⟨rfl,?_⟩
   clear hK K'
   refine Br.mo rfl rfl hc (fun d K' hK=>?_) _
   go_simp
   refine hK _ _ ⟨rfl,?_⟩
   clear hK K'
   refine Br.liv_region_end (fun d=>?_) _
   refine Br.liv_ret (fun d=>?_) _
   exact Br.liv_leave (v:=.tuple #[.int .i64 0,.int .i64 e']) rfl rfl Tryd.func79 (resultsC_tmp2 (t:=4) (u:=5) rfl _) hd _
   done
  exact good_nil (hn 0 e' free go')
set_option maxRecDepth 100000 in
theorem fork_start (child e:Int)(ps fs:Sl)(hps:ps.ok pv H)(hfs:fs.ok pv H)(fr:Frame)(cs:List Frame)(k:Int × Int→Bool→Strat)
  (hn:∀ x e free' go',Good' C n (k (x,e) go') [] H free' go' (G (fr.finish (.tuple #[.int .i64 x,.int .i64 e])) cs))(j1 j2 j3 j8 j11 j12 j13 j14 j15 j16 j17 j18 j19 j20 j21 j22 j23 j24 j25 j26 j27 j28 j29 j30 j31 j32 j33 j34 j35 j36 j37 j38 j39 j40 j41 j42 j43 j44 j45:Value) :
  Good' C n ((forkD child ps.xs fs.xs e).then go k) pv H free go (G ((base 79).at ⟨#[pO C.o,j1,j2,j3,.int .i64 0,.int .i64 0,.int .i64 child,.int .i64 e,j8,ps.val,fs.val,j11,j12,j13,j14,j15,j16,j17,j18,j19,j20,j21,j22,j23,j24,j25,j26,j27,j28,j29,j30,j31,j32,j33,j34,j35,j36,j37,j38,j39,j40,j41,j42,j43,j44,j45,undef,undef,undef,undef,undef,undef,undef,undef,undef,undef,undef,undef,undef,undef,undef,undef,undef,undef],[]⟩ [.code forkT1]) (fr::cs)):=by
 have key:=fun go e=>fork_end (C:=C) (n:=n) (free:=free) (go:=go) child e ps fs hps hfs fr cs k hn
 unfold forkD forkT1
 unfold forkT2 at key
 simp only [Tryd.f79,pO] at *
 apply good_still
 ·intro l K un w Stop St hd d
  have hc:=St.clear
  refine Br.liv_seq (fun d=>?_) _
  refine Br.liv_seq (fun d=>?_) _
  refine Br.liv_region (fun d=>?_) _
  simp only [Br.rz,Br.ix,Nat.reduceAdd]
  refine Br.mo rfl rfl hc (fun d K' hK=>?_) _
  go_simp
  refine hK _ _ ⟨rfl,?_⟩
  clear hK K'
  refine Br.mo rfl rfl hc (fun d K' hK=>?_) _
  go_simp
  refine hK _ _ ⟨rfl,?_⟩
  clear hK K'
  refine Br.liv_region_end (fun d=>?_) _
  exact hd _
 by_cases he:e=0
 ·subst he
  rw [if_pos rfl,M.bind_then]
  apply good_still
  ·intro l K un w Stop St hd d
   have hc:=St.clear
   refine Br.mc rfl (fun u=>stepG_cond (t:=true) rfl) (fun d=>?_) _
   simp only [if_true,if_false,Bool.false_eq_true,↓reduceIte]
   refine Br.liv_region (fun d=>?_) _
   simp only [Br.rz,Br.ix,Nat.reduceAdd]
   refine Br.mo rfl rfl hc (fun d K' hK=>?_) _
   go_simp
   refine hK _ _ ⟨rfl,?_⟩
   clear hK K'
   refine Br.mo rfl rfl hc (fun d K' hK=>?_) _
   go_simp
   refine hK _ _ ⟨rfl,?_⟩
   clear hK K'
   refine Br.mo rfl rfl hc (fun d K' hK=>?_) _
   go_simp
   refine hK _ _ ⟨rfl,?_⟩
   clear hK K'
   refine Br.mc rfl (fun u=>stepG_call rfl rfl (by decide) rfl Tryd.func84 rfl rfl (vs:=callArgs C.o 8 child 0 0) (by simp [Act.eval]) u) (fun d=>?_) _
   exact hd _
  refine good_call 8 child 0 0 _ _ _ (fun x e go' hg=>?_)
  rw [Frame.finish_at]
  apply good_still
  ·intro l K un w Stop St hd d
   have hc:=St.clear
   go_simp
   refine Br.mo rfl rfl hc (fun d K' hK=>?_) _
   go_simp
   refine hK _ _ ⟨rfl,?_⟩
   clear hK K'
   refine Br.mo rfl rfl hc (fun d K' hK=>?_) _
   go_simp
   refine hK _ _ ⟨rfl,?_⟩
   clear hK K'
   refine Br.mo rfl rfl hc (fun d K' hK=>?_) _
   go_simp
   refine hK _ _ ⟨rfl,?_⟩
   clear hK K'
   refine Br.mo rfl rfl hc (fun d K' hK=>?_) _
   go_simp
   refine hK _ _ ⟨rfl,?_⟩
   clear hK K'
   refine Br.liv_region_end (fun d=>?_) _
   exact hd _
  exact key go' e _ _ _ _ _ _ _ _ _ _ _ _ _ _ _ _ _ _ _ _ _ _ _ _ _ _ _ _ _ _ _ _ _ _ _ _ _ _ _ _ _ _ _ _ _ _ _ _
 ·rw [if_neg he]
  have hb:(e == 0)=false:=by simp [he]
  apply good_still
  ·intro l K un w Stop St hd d
   have hc:=St.clear
   refine Br.mc rfl (fun u=>stepG_cond (t:=false) (by simpa [Act.eval] using hb)) (fun d=>?_) _
   simp only [if_false,Bool.false_eq_true]
   refine Br.liv_skip (fun d=>?_) _
   exact hd _
  exact key go e _ _ _ _ _ _ _ _ _ _ _ _ _ _ _ _ _ _ _ _ _ _ _ _ _ _ _ _ _ _ _ _ _ _ _ _ _ _ _ _ _ _ _ _ _ _ _ _
theorem cell_lt {w:World}{b j:Nat}{x:Value}(h:w.cell? ⟨b,j,none⟩=some x):b<w.heap.size:=by
 by_cases e:b<w.heap.size
 ·exact e
 ·simp only [World.cell?,Array.getElem?_eq_none (show w.heap.size≤b by omega)] at h;cases h
theorem wp_store_any {P:Program}{op:Oper}{a:Act}{w:World}{K:Act→World→Prop}{Q:Exit→Act→World→Prop}(ty:TypeId)(x y:Operand)(ho:op.op=.store ty x y)
  (b o:Nat)(cells:Array Value)(hx:a.eval x=.pointer (some ⟨b,o,none⟩))(hy:a.eval y=.agg cells)
  (ht:w.there b o cells.size)(hi:(P.info? ty).map (·.size)=some cells.size)(h1:cells.all (·.oneCell')=true)
  (h:∀ W,W.rangeAt b o cells.toList→(∀ k,k≠b→W.heap[k]?=w.heap[k]?)→W.heap.size=w.heap.size→K (a.put op.dst undef) W):op.wp P a w K Q :=
 wp_store_mid ty x y ho b o cells hx hy ht hi h1 (h _ (World.rangeAt_setCells_same w b o _ (by rw [Array.length_toList];exact ht)) (fun k hk=>heap_setCells hk _ _ _) (size_setCells _ _ _))
noncomputable def forkR4:Code :=
 match Tryd.f79.body with
 | some (.seq _ (.seq _ (.seq _ (.seq c _))))=>c
 | _=>.skip
set_option maxRecDepth 100000 in
theorem fork_read {K0:Ker}{gF gS gD sb p:Nat}{child:Int}(hK:K0.nS≤32)(hR:Row pv H gS 55 (K0.nS*20) (sCell K0))(hp:p<K0.nS)(hsb:sb∈pv)(hbs:H sb=boxSt K0 gF gS gD)(j11 j12 j13 j14 j15 j16 j17 j18:Value)(v:World)(hv:∀ i∈pv,i<v.heap.size∧(Br.Obj.sight (H i)→v.heap[i]?=some (H i)))(hC:v.cell? ⟨C.o.bo,4,none⟩=some (.int .i64 p)) :
  forkR4.wp Tryd.prog (fun e a' v'=>e=.normal∧∃ bs Hn,Gain pv H v v' bs Hn∧∃ bx,bs=[bx]∧a'=⟨#[pO C.o,stVal K0 gF gS gD,undef,.pointer (some ⟨sb,0,none⟩),.int .i64 0,.int .i64 0,.int .i64 child,.int .i64 0,.pointer (some ⟨bx,0,none⟩),undef,undef,j11,j12,j13,j14,j15,j16,j17,j18,undef,.pointer (some ⟨sb,1,none⟩),.slice (some ⟨gS,0,none⟩) K0.nS K0.nS,pO C.o,pO C.o,.pointer (some ⟨C.o.bo,4,none⟩),.int .i64 p,.pointer (some ⟨gS,p*20,none⟩),.agg (cut (sCell K0) (p*20) 20).toArray,undef,undef,undef,undef,undef,undef,undef,undef,undef,undef,undef,undef,undef,undef,undef,undef,undef,undef,undef,undef,undef,undef,undef,undef,undef,undef,undef,undef,undef,undef,undef,undef,undef,undef,undef,undef],[]⟩∧Slt (Hn bx) K0 p) ⟨#[pO C.o,stVal K0 gF gS gD,undef,.pointer (some ⟨sb,0,none⟩),.int .i64 0,.int .i64 0,.int .i64 child,.int .i64 0,undef,undef,undef,j11,j12,j13,j14,j15,j16,j17,j18,undef,undef,undef,undef,undef,undef,undef,undef,undef,undef,undef,undef,undef,undef,undef,undef,undef,undef,undef,undef,undef,undef,undef,undef,undef,undef,undef,undef,undef,undef,undef,undef,undef,undef,undef,undef,undef,undef,undef,undef,undef,undef,undef,undef,undef],[]⟩ v:=by
 have hrow:=hR.is hv
 have hlt:∀ i∈pv,i<v.heap.size:=fun i hi=>(hv i hi).1
 obtain ⟨cs,hcs⟩:∃ cs,cs=cut (sCell K0) (p*20) 20:=⟨_,rfl⟩
 have hu:=Tryd.underlying55
 have ei:(Tryd.prog.info? 55).map (·.size)=some cs.length:=by rw [hcs,cut_len];kernel_rfl
 have o1:∀ v∈cs,v.oneCell'=true:=by
  have:=cut_one K0 (p*20) 20
  rw [← hcs] at this
  simpa using this
 have z1:cs.length=20:=by rw [hcs,cut_len]
 have LA:v.rangeAt gS (p*20) cs:=by rw [hcs];exact rowIs_range hrow (o:=p*20) (m:=20) (by omega)
 have cS:v.cell? ⟨sb,1,none⟩=some (.slice (some ⟨gS,0,none⟩) K0.nS K0.nS):=by
  simp only [World.cell?,(hv sb hsb).2 (by rw [hbs];trivial),hbs];rfl
 have n1:=World.new_ne v _ hC
 have n2:=World.new_ne v _ cS
 rw [← hcs]
 have Hcs:Hid (cs=cut (sCell K0) (p*20) 20):=hcs
 clear hcs
 have b1:(0:Int)≤(p:Int):=by omega
 have b2:(p:Int)<(K0.nS:Int):=by omega
 have Hlt:Hid (∀ i∈pv,i<v.heap.size):=hlt
 clear hlt hrow hR hv
 unfold forkR4
 simp only [Tryd.f79,pO]
 refine wp_region_held (S:=fun w'=>w'.cell? ⟨sb,1,none⟩=some (.slice (some ⟨gS,0,none⟩) K0.nS K0.nS)∧w'.cell? ⟨C.o.bo,4,none⟩=some (.int .i64 p)∧w'.rangeAt gS (p*20) cs) (by kernel_rfl) ?_
 have hS:(fun w':World=>w'.cell? ⟨sb,1,none⟩=some (.slice (some ⟨gS,0,none⟩) K0.nS K0.nS)∧w'.cell? ⟨C.o.bo,4,none⟩=some (.int .i64 p)∧w'.rangeAt gS (p*20) cs) { v with drawn:=v.drawn+1 }:=⟨cS,hC,LA⟩
 refine wpAnyH_take (i:=0) (v:=(.pointer (some ⟨sb,1,none⟩))) rfl (by kernel_rfl) (by kernel_rfl) (by kernel_rfl) (fun _ _ _ h=>by cases h.1) (Or.inl ⟨by rfl,fun w h=>by go_simp⟩) hS ?_
 try simp only [Act.put,List.setIfInBounds_toArray,List.set_cons_zero,List.set_cons_succ]
 refine wpAnyH_take (i:=1) (v:=(.slice (some ⟨gS,0,none⟩) K0.nS K0.nS)) rfl (by kernel_rfl) (by kernel_rfl) (by kernel_rfl) (fun _ _ _ h=>by cases h.1) (Or.inl ⟨by rfl,fun w h=>by have h1:=h.1;go_simp⟩) hS ?_
 try simp only [Act.put,List.setIfInBounds_toArray,List.set_cons_zero,List.set_cons_succ]
 refine wpAnyH_take (i:=2) (v:=(.pointer (some ⟨C.o.bo,0,none⟩))) rfl (by kernel_rfl) (by kernel_rfl) (by kernel_rfl) (fun _ _ _ h=>by cases h.1) (Or.inl ⟨by rfl,fun w h=>by go_simp⟩) hS ?_
 try simp only [Act.put,List.setIfInBounds_toArray,List.set_cons_zero,List.set_cons_succ]
 refine wpAnyH_take (i:=3) (v:=(.pointer (some ⟨C.o.bo,0,none⟩))) rfl (by kernel_rfl) (by kernel_rfl) (by kernel_rfl) (fun _ _ _ h=>by cases h.1) (Or.inl ⟨by rfl,fun w h=>by go_simp⟩) hS ?_
 try simp only [Act.put,List.setIfInBounds_toArray,List.set_cons_zero,List.set_cons_succ]
 refine wpAnyH_take (i:=4) (v:=(.pointer (some ⟨C.o.bo,4,none⟩))) rfl (by kernel_rfl) (by kernel_rfl) (by kernel_rfl) (fun _ _ _ h=>by cases h.1) (Or.inl ⟨by rfl,fun w h=>by go_simp⟩) hS ?_
 try simp only [Act.put,List.setIfInBounds_toArray,List.set_cons_zero,List.set_cons_succ]
 refine wpAnyH_take (i:=5) (v:=(.int .i64 p)) rfl (by kernel_rfl) (by kernel_rfl) (by kernel_rfl) (fun _ _ _ h=>by cases h.1) (Or.inl ⟨by rfl,fun w h=>by have h1:=h.2.1;go_simp⟩) hS ?_
 try simp only [Act.put,List.setIfInBounds_toArray,List.set_cons_zero,List.set_cons_succ]
 refine wpAnyH_take (i:=6) (v:=(.pointer (some ⟨gS,p*20,none⟩))) rfl (by kernel_rfl) (by kernel_rfl) (by kernel_rfl) (fun _ _ _ h=>by cases h.1) (Or.inl ⟨by rfl,fun w h=>by go_simp⟩) hS ?_
 try simp only [Act.put,List.setIfInBounds_toArray,List.set_cons_zero,List.set_cons_succ]
 refine wpAnyH_take (i:=7) (v:=.agg cs.toArray) rfl (by kernel_rfl) (by kernel_rfl) (by kernel_rfl) (fun _ _ _ h=>by cases h.1) (yieldsIf_load_mid (by rfl) _ _ rfl _ _ rfl _ _ (fun w h=>h.2.2) hu rfl ei) hS ?_
 refine wpAnyH_all (rs:=[8]) (by kernel_rfl) (by simp) (fun i hi=>?_)
 obtain rfl:=List.mem_singleton.1 hi
 refine Or.inl ?_
 have l1:C.o.bo<v.heap.size:=cell_lt hC
 have l2:sb<v.heap.size:=cell_lt cS
 have l3:gS<v.heap.size:=cell_lt (LA 0 _ (List.getElem?_eq_getElem (by omega)))
 have keep:∀ (W:World),(∀ k,k<v.heap.size→W.heap[k]?=v.heap[k]?)→W.cell? ⟨sb,1,none⟩=some (.slice (some ⟨gS,0,none⟩) K0.nS K0.nS)∧W.cell? ⟨C.o.bo,4,none⟩=some (.int .i64 p)∧W.rangeAt gS (p*20) cs:=fun W h =>
  ⟨(World.cell?_of_block (w:=v) (h sb l2)).trans cS,(World.cell?_of_block (w:=v) (h C.o.bo l1)).trans hC,range_block LA (h gS l3)⟩
 go_simp
 refine ⟨(keep _ (fun k hk=>Below.heap_alloc v _ k hk)).2.2,?_⟩
 refine wpAnyH_all (rs:=[9]) (by kernel_rfl) (by simp) (fun i hi=>?_)
 obtain rfl:=List.mem_singleton.1 hi
 refine Or.inl ?_
 refine wp_store_any 55 _ _ rfl _ 0 cs.toArray rfl rfl ((World.there_drew _ _ _ _).2 (there_new1 v _ _ _ (by show 20=cs.length;rw [z1]))) (by show _=some cs.length;exact ei) (by simpa using o1) ?_
 intro W1 f1 f2 f3
 have f2':∀ k,k<v.heap.size→W1.heap[k]?=v.heap[k]?:=fun k hk=>(f2 k (by show k≠v.heap.size;omega)).trans (Below.heap_alloc v _ _ hk)
 refine ⟨keep _ f2',wpAnyH_done (by kernel_rfl) ⟨rfl,?_⟩ _⟩
 obtain ⟨X,hX,hSl⟩:=slt_of (K:=K0) (i:=p) (b:=v.heap.size) (w:=W1) (by rw [← Hcs.out];exact f1)
 refine ⟨[v.heap.size],fun k=>if k=v.heap.size then X else H k,⟨?_,f2',?_,?_⟩,v.heap.size,rfl,rfl,by simpa using hSl⟩
 ·rw [f3];simp
 ·intro b hb;obtain rfl:=List.mem_singleton.1 hb;exact ⟨Nat.le_refl _,by simpa using hX⟩
 ·intro i hi;have:=Hlt.out i hi;show (if i=v.heap.size then X else H i)=H i;rw [if_neg (by omega)]
end
end Go.Proofs.YtcgabodkegcpgaaDoor
