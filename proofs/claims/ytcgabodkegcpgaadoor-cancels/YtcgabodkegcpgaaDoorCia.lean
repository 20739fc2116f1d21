/- What holds at the head of a checker's loop of acts, and how each act keeps it. No statement of the program is proved here. -/
import Derived.Test.YtcgabodkegcpgaaDoorWrk
import Derived.Test.YtcgabodkegcpgaaDoorCall
namespace Go.Proofs.YtcgabodkegcpgaaDoor
open Go.Conc Go.RowKit
open Br (X OpD KO SO SP sfO Lk Fit Must DL Liv Clear)
set_option linter.unusedVariables false
set_option linter.unusedSimpArgs false
set_option maxHeartbeats 4000000
structure CI (w0:World) (kb:Kb) (b:Lb) (n i:Nat) (l:List OpD) (K:Ker) (L:Nat→Option Lv) (r:Nat) (Inb:Nat→Option Seat) (nG:Nat) (w:World) (U:Nat→Option OpD) (V:Nat→Value) (N:Nat→Nat) (Xs:Nat→List Value):Prop where
 co:Co kb l K L r Inb nG w
 hn:K.nS=n
 lm:LibM kb l L w b n (b.bl+1) U V N Xs
 g0:0<nG
 u1:∀ p q o,p<n→q<n→U p=some o→U q=some o→p=q
 all:∀ g v,L g=some v→∃ p,p<n∧U p=some v.C.o
 nb:∀ p,p<n→N p≤i
 ints:∀ p,p<n→∀ x∈Xs p,∃ z,x=.int .i64 z
 old:∀ k,k<w0.heap.size→Mn kb L w k∧w.heap[k]?=w0.heap[k]?
 far:w0.heap.size≤b.bl∧w0.heap.size≤b.bu∧w0.heap.size≤b.bn
section
variable {w0:World} {kb:Kb} {b:Lb} {n i:Nat} {l:List OpD} {K:Ker} {L:Nat→Option Lv} {r:Nat} {Inb:Nat→Option Seat} {nG:Nat} {w w':World} {U:Nat→Option OpD} {V:Nat→Value} {N:Nat→Nat} {Xs:Nat→List Value}
theorem CI.grown (h:CI w0 kb b n i l K L r Inb nG w U V N Xs)(g:Grown w w'):CI w0 kb b n i l K L r Inb nG w' U V N Xs :=
 ⟨h.co.grown g,h.hn,h.lm.grown g,h.g0,h.u1,h.all,h.nb,h.ints,fun k hk=>⟨(h.old k hk).1.grow g.size,(g.old k (h.old k hk).1.lt).trans (h.old k hk).2⟩,h.far⟩
theorem CI.more (h:CI w0 kb b n i l K L r Inb nG w U V N Xs){j:Nat}(hj:i≤j):CI w0 kb b n j l K L r Inb nG w U V N Xs :=
 ⟨h.co,h.hn,h.lm,h.g0,h.u1,h.all,fun p hp=>Nat.le_trans (h.nb p hp) hj,h.ints,h.old,h.far⟩
theorem CI.less (h:CI w0 kb b n i l K L r Inb nG w U V N Xs){r':Nat}(hr:r'≤r):CI w0 kb b n i l K L r' Inb nG w U V N Xs :=
 ⟨⟨h.co.env,h.co.top,h.co.gid,h.co.onk,h.co.at_,fun g v hv=>(h.co.wait g v hv).imp fun m hm=>⟨Nat.le_trans hr hm.1,hm.2⟩,h.co.seat,h.co.none,h.co.main0,h.co.chan,h.co.chne,h.co.pvch,h.co.apart⟩,h.hn,h.lm,h.g0,h.u1,h.all,h.nb,h.ints,h.old,h.far⟩
theorem CI.call (h:CI w0 kb b n i l K L r Inb nG w U V N Xs){K':Ker}(co:Co kb l K' L r Inb nG w')(hS:K'.nS=K.nS)(hk:Kp kb L w L w'):CI w0 kb b n i l K' L r Inb nG w' U V N Xs :=
 ⟨co,hS.trans h.hn,h.lm.same hk,h.g0,h.u1,h.all,h.nb,h.ints,fun k hlt=>⟨(hk k (h.old k hlt).1).1,(hk k (h.old k hlt).1).2.trans (h.old k hlt).2⟩,h.far⟩
theorem CI.begun (h:CI w0 kb b n i l K L r Inb nG w U V N Xs){p:Nat}(hp:p<n)(hU:U p=none){C:Ctx}{S:Ker→Strat}{pv:List Nat}{H:Heap}{cs:List Frame}{Inb':Nat→Option Seat}(hg:C.o.gid=nG)
  (co:Co kb (C.o::l) K (ConcN.upd L nG (some ⟨C,S,pv,H,cs⟩)) r Inb' (nG+1) w')(hk:∀ k,Mn kb L w k→k≠b.bu→Mn kb (ConcN.upd L nG (some ⟨C,S,pv,H,cs⟩)) w' k∧w'.heap[k]?=w.heap[k]?)
  (lm:LibM kb (C.o::l) (ConcN.upd L nG (some ⟨C,S,pv,H,cs⟩)) w' b n (b.bl+1) (setO U p C.o) V N Xs):CI w0 kb b n i (C.o::l) K (ConcN.upd L nG (some ⟨C,S,pv,H,cs⟩)) r Inb' (nG+1) w' (setO U p C.o) V N Xs:=by
 have lt:∀ q o,q<n→U q=some o→o.gid<nG:=fun q o hq ho=>by
  obtain ⟨v,h1,h2,_⟩:=h.lm.live q hq o ho
  exact (h.co.gid _ v h1).2.2
 refine ⟨co,h.hn,lm,by omega,fun q q' o hq hq' e e'=>?_,fun g v hv=>?_,h.nb,h.ints,fun k hlt=>?_,h.far⟩
 ·unfold setO at e e'
  split at e<;>split at e'
  ·omega
  ·obtain rfl:=Option.some.inj e;have:=lt q' _ hq' e';omega
  ·obtain rfl:=Option.some.inj e';have:=lt q _ hq e;omega
  ·exact h.u1 q q' o hq hq' e e'
 ·by_cases eg:g=nG
  ·subst eg
   rw [ConcN.upd_same] at hv
   obtain rfl:=Option.some.inj hv
   exact ⟨p,hp,by simp [setO]⟩
  ·rw [ConcN.upd_ne _ _ eg] at hv
   obtain ⟨q,hq,e⟩:=h.all g v hv
   exact ⟨q,hq,by unfold setO;rw [if_neg (fun x=>by subst x;rw [hU] at e;cases e)];exact e⟩
 ·obtain ⟨m1,m2⟩:=hk k (h.old k hlt).1 (by have:=h.far.2.1;omega)
  exact ⟨m1,m2.trans (h.old k hlt).2⟩
theorem CI.goes (h:CI w0 kb b n i l K L (r+1) Inb nG w U V N Xs){v v':Lv}(hv:L v.C.o.gid=some v)(hC:v'.C=v.C){K':Ker}{Inb':Nat→Option Seat}
  (co:Co kb l K' (ConcN.upd L v.C.o.gid (some v')) r Inb' nG w')(hS:K'.nS=K.nS)(hk:Kp kb L w (ConcN.upd L v.C.o.gid (some v')) w')(lm:LibM kb l (ConcN.upd L v.C.o.gid (some v')) w' b n (b.bl+1) U V N Xs) :
  CI w0 kb b n i l K' (ConcN.upd L v.C.o.gid (some v')) r Inb' nG w' U V N Xs:=by
 refine ⟨co,hS.trans h.hn,lm,h.g0,h.u1,fun g u hu=>?_,h.nb,h.ints,fun k hlt=>?_,h.far⟩
 ·by_cases eg:g=v.C.o.gid
  ·subst eg
   rw [ConcN.upd_same] at hu
   obtain rfl:=Option.some.inj hu
   rw [hC]
   exact h.all _ v hv
  ·rw [ConcN.upd_ne _ _ eg] at hu
   exact h.all g u hu
 ·obtain ⟨m1,m2⟩:=hk k (h.old k hlt).1
  exact ⟨m1,m2.trans (h.old k hlt).2⟩
theorem CI.over (h:CI w0 kb b n i l K L (r+1) Inb nG w U V N Xs){p:Nat}(hp:p<n){v:Lv}(hU:U p=some v.C.o)(hv:L v.C.o.gid=some v){K':Ker}{Inb':Nat→Option Seat}{g cap:Nat}{err val:Int}
  (co:Co kb l K' (ConcN.upd L v.C.o.gid none) r Inb' nG w')(hS:K'.nS=K.nS)(hk:∀ k,Mn kb L w k→¬ LibEx b V p k→Mn kb (ConcN.upd L v.C.o.gid none) w' k∧w'.heap[k]?=w.heap[k]?)
  (lm:LibM kb l (ConcN.upd L v.C.o.gid none) w' b n (b.bl+1) (setU U p) (setV V p (.slice (some ⟨g,0,none⟩) (N p+1) cap)) (setV N p (N p+1)) (setV Xs p (Xs p ++ ent v.C.kd v.C.A v.C.B err val))) :
  CI w0 kb b n (i+1) l K' (ConcN.upd L v.C.o.gid none) r Inb' nG w' (setU U p) (setV V p (.slice (some ⟨g,0,none⟩) (N p+1) cap)) (setV N p (N p+1)) (setV Xs p (Xs p ++ ent v.C.kd v.C.A v.C.B err val)):=by
 refine ⟨co,hS.trans h.hn,lm,h.g0,fun q q' o hq hq' e e'=>?_,fun g' u hu=>?_,fun q hq=>?_,fun q hq x hx=>?_,fun k hlt=>?_,h.far⟩
 ·unfold setU at e e'
  split at e
  ·cases e
  ·split at e'
   ·cases e'
   ·exact h.u1 q q' o hq hq' e e'
 ·by_cases eg:g'=v.C.o.gid
  ·subst eg;rw [ConcN.upd_same] at hu;cases hu
  ·rw [ConcN.upd_ne _ _ eg] at hu
   obtain ⟨q,hq,e⟩:=h.all g' u hu
   refine ⟨q,hq,?_⟩
   unfold setU
   rw [if_neg (fun x=>?_)]
   ·exact e
   ·subst x
    rw [hU] at e
    have e2:=Option.some.inj e
    have:=(h.co.gid g' u hu).1
    rw [← this,e2] at eg
    exact eg rfl
 ·unfold setV
  split
  ·have:=h.nb p hp;omega
  ·have:=h.nb q hq;omega
 ·unfold setV at hx
  split at hx
  ·rcases List.mem_append.1 hx with hx|hx
   ·exact h.ints p hp x hx
   ·simp only [ent,List.mem_cons,List.not_mem_nil,or_false] at hx
    rcases hx with rfl|rfl|rfl|rfl|rfl<;>exact ⟨_,rfl⟩
  ·exact h.ints q hq x hx
 ·obtain ⟨m1,m2⟩:=hk k (h.old k hlt).1 (fun e=>by
   obtain ⟨f1,f2,f3⟩:=h.far
   rcases e with e|e|e
   ·omega
   ·omega
   ·have:=(owns_lt (h.lm.m.is.own p hp) e).1
    omega)
  exact ⟨m1,m2.trans (h.old k hlt).2⟩
theorem CI.cancelled (h:CI w0 kb b n i l K L r Inb nG w U V N Xs){L':Nat→Option Lv}{Inb':Nat→Option Seat}(co:Co kb l K L' r Inb' nG w')(lm:LibM kb l L' w' b n (b.bl+1) (fun _=>none) V N Xs)
  (hk:∀ k,Mn kb L w k→k≠b.bu→Mn kb L' w' k∧w'.heap[k]?=w.heap[k]?)(hL:∀ g v,L' g=some v→L g=some v∧∀ p,p<n→U p≠some v.C.o) :
  CI w0 kb b n i l K L' r Inb' nG w' (fun _=>none) V N Xs∧∀ g,L' g=none:=by
 have hN:∀ g,L' g=none:=fun g=>by
  cases e:L' g with
  | none=>rfl
  | some v =>
   obtain ⟨h1,h2⟩:=hL g v e
   obtain ⟨p,hp,hU⟩:=h.all g v h1
   exact (h2 p hp hU).elim
 refine ⟨⟨co,h.hn,lm,h.g0,fun p q o _ _ e=>(by cases e),fun g v hv=>(by rw [hN g] at hv;cases hv),h.nb,h.ints,fun k hlt=>?_,h.far⟩,hN⟩
 obtain ⟨m1,m2⟩:=hk k (h.old k hlt).1 (by have:=h.far.2.1;omega)
 exact ⟨m1,m2.trans (h.old k hlt).2⟩
end
theorem row_eq {w:World}{b t:Nat}{cs:Array Value}{f:Nat→Value}(h:w.rowIs b t cs.size f)(hf:∀ j,j<cs.size→cs[j]?=some (f j)):w.heap[b]?=some (.cells cs t (0,0)):=by
 obtain ⟨c,h1,h2,h3⟩:=h
 have e:c=cs:=Array.ext_getElem? fun i=>by
  rcases Nat.lt_or_ge i cs.size with g|g
  ·rw [h3 i g,hf i g]
  ·rw [Array.getElem?_eq_none (by omega),Array.getElem?_eq_none g]
 rw [h1,e]
theorem setCells_all {w:World}{b t:Nat}{c cs:Array Value}(h:w.heap[b]?=some (.cells c t (0,0)))(hs:c.size=cs.size):(w.setCells b 0 cs.toList).heap[b]?=some (.cells cs t (0,0)):=by
 have hr:w.rowIs b t cs.size (fun j=>c.getD j (.bool false)):=⟨c,h,hs,fun j hj=>by simp [Array.getD_eq_getD_getElem?,hs▸hj]⟩
 refine row_eq (rowIs_setCells cs.toList 0 hr) fun j hj=>?_
 rw [if_pos (by simp;omega),Nat.sub_zero,List.getD_eq_getElem?_getD]
 simp [hj]
theorem lw_storeRow {sz:Nat}{env:List (Nat × Value)}{main:Bool}{sft:Nat→Nat}{Stop:Goroutine→World→Prop}{b:Frame}{a:Act}{ops:Array Oper}{i x y bx t ty:Nat}{o:Oper}{rest:List Nat}{k:List Item}{cs:List Frame}{w:World}{c0 cells:Array Value}(hA:Lvs sz env a)(ho:ops[i]?=some o)(hg:o.guard=none)(hk:b.kind≠.early)(hop:o.op=.store ty (.tmp x) (.tmp y))(hd:o.dst=none)(hft:Fit sft w)
  (ex:a.eval (.tmp x)=.pointer (some ⟨bx,0,none⟩))(ey:a.eval (.tmp y)=.agg cells)(hb:w.heap[bx]?=some (.cells c0 t (0,0)))(hc:c0.size=cells.size)(hi:(Tryd.prog.info? ty).map (·.size)=some cells.size)(h1:cells.all (·.oneCell')=true)(hz:sft bx=0)
  (h:∀ w',w'.heap.size=w.heap.size→(∀ k,k≠bx→w'.heap[k]?=w.heap[k]?)→w'.heap[bx]?=some (.cells cells t (0,0))→Liv Tryd.prog main true sft Stop (G (b.at a (.inRegion ops rest::k)) cs) w') :
  Liv Tryd.prog main true sft Stop (G (b.at a (.inRegion ops (i::rest)::k)) cs) w:=by
 have row:∀ d v,Lk sft v (w.at d)→v.heap[bx]?=some (.cells c0 t (0,0)):=fun d v hv=>by
  rw [lk_same (w:=w.at d) hv hz (.inl ⟨_,_,_,hb⟩)];exact hb
 refine lw_skipped (R:=fun v v'=>v'=v.setCells bx 0 cells.toList) hA ho hg hk (by rw [hop];rfl) hd hft (fun d v hv=>⟨_,?_,rfl⟩) (fun d w2 v v' hv hl' hkp hR=>?_)
 ·have hr:=row d v hv
  have ht:v.there bx 0 cells.size:=rowIs_there (t:=t) (n:=cells.size) (f:=fun j=>c0.getD j (.bool false)) ⟨c0,hr,hc,fun j hj=>by simp [Array.getD_eq_getD_getElem?,hc▸hj]⟩ (by omega)
  unfold execOp
  simp only [hop,ex,ey]
  have:=run_storeAt_mid (P:=Tryd.prog) v bx 0 ty cells ht hi h1
  simp only [Sem.run_bind,this,Result.andThen_ok]
  rfl
 ·subst hR
  have sv:v.heap.size=w.heap.size:=hv.size
  have sv':=hl'.size
  rw [size_setCells] at sv'
  have hv3:=setCells_all (row d v hv) hc
  refine h w2 (by omega) (fun k hne=>?_) ?_
  ·exact same_block (w:=w.at d) hkp hv hl' (heap_setCells hne _ _ _)
  ·rw [← lk_same hl' hz (.inr ⟨_,_,_,hv3⟩)];exact hv3
theorem run_len {P:Program}{o:Oper}{a:Act}{x:Operand}{t e:TypeId}{ad:Option Addr}{n c:Nat}{w:World}(hop:o.op=.call { callee:=.builtin .len,args:=#[x],argTypes:=#[t] })(hu:P.underlying t=some (.slice e))(hx:a.eval x=.slice ad n c):(execOp a.eval o).run P w=.ok (.value (.int .i64 n)) w:=by
 simp [execOp,hop,resolve,invoke,builtin,hx,Builtin.len_,goInt,Result.andThen,run_underlying hu]
set_option maxRecDepth 100000 in
theorem cn_head {l:List OpD}{Stop:Goroutine→World→Prop}{w:World}(hft:Fit (sfO l) w)(hko:KO l w){g q0 i len cap cB:Nat}{vk vl:Value}{ka s cl a0 a1 a2 o0 o1 o2:Int}{bb:Bool}(hlt:i<len)(LA:w.rangeAt g (q0+i*10) (actCells ka s cl a0 a1 a2 o0 o1 o2 bb))
  {a:Act}(hA:Lvs 211 [(1,.slice (some ⟨g,q0,none⟩) len cap),(2,.pointer (some ⟨cB,0,none⟩)),(5,.bool true),(6,vk),(8,vl),(9,.int .i64 i)] a)(k:List Item)(cs:List Frame)
  (hB:ka=2→∀ a' w',Grown w w'→w'.heap[w.heap.size]?=some (.cells (actCells ka s cl a0 a1 a2 o0 o1 o2 bb).toArray 40 (0,0))→Lvs 211 [(1,.slice (some ⟨g,q0,none⟩) len cap),(2,.pointer (some ⟨cB,0,none⟩)),(5,.bool true),(6,vk),(8,vl),(9,.int .i64 i),(10,.pointer (some ⟨w.heap.size,0,none⟩))] a'→Liv Tryd.prog true true (sfO l) Stop (G ((base 6).at a' (.code (rg 16)::.inBlock 2::.inBlock 1::.code (rg 11)::k)) cs) w')
  (hP:ka≠2→ka=3→∀ a' w',Grown w w'→w'.heap[w.heap.size]?=some (.cells (actCells ka s cl a0 a1 a2 o0 o1 o2 bb).toArray 40 (0,0))→Lvs 211 [(1,.slice (some ⟨g,q0,none⟩) len cap),(2,.pointer (some ⟨cB,0,none⟩)),(5,.bool true),(6,vk),(8,vl),(9,.int .i64 i),(10,.pointer (some ⟨w.heap.size,0,none⟩))] a'→Liv Tryd.prog true true (sfO l) Stop (G ((base 6).at a' (.code (rg 18)::.inBlock 2::.inBlock 1::.code (rg 11)::k)) cs) w')
  (hC:ka≠2→ka≠3→∀ a' w',Grown w w'→w'.heap[w.heap.size]?=some (.cells (actCells ka s cl a0 a1 a2 o0 o1 o2 bb).toArray 40 (0,0))→Lvs 211 [(1,.slice (some ⟨g,q0,none⟩) len cap),(2,.pointer (some ⟨cB,0,none⟩)),(5,.bool true),(6,vk),(8,vl),(9,.int .i64 i),(10,.pointer (some ⟨w.heap.size,0,none⟩))] a'→Liv Tryd.prog true true (sfO l) Stop (G ((base 6).at a' (.code (rg 14)::.inBlock 2::.inBlock 1::.code (rg 11)::k)) cs) w') :
  Liv Tryd.prog true true (sfO l) Stop (G ((base 6).at a (.code cnLoop1::k)) cs) w:=by
 have i0:(0:Int)≤(i:Int):=by omega
 have i1:(i:Int)<(len:Int):=by omega
 unfold cnLoop1
 refine Br.liv_seq ?_
 refine Br.liv_seq ?_
 refine lw_region (n:=10) (m:=0) (il:=[0,1,2,3]) (by kernel_rfl) ?_
 refine lw_val (v:=.int .i64 i) hA rfl (wanted_none rfl) (by decide) (by kernel_rfl) rfl (by decide) (fun d=>run_move rfl (hA.get rfl)) (fun a (hA:Lvs 211 [(53,.int .i64 i),(1,.slice (some ⟨g,q0,none⟩) len cap),(2,.pointer (some ⟨cB,0,none⟩)),(5,.bool true),(6,vk),(8,vl),(9,.int .i64 i)] a)=>?_)
 refine lw_val (v:=.slice (some ⟨g,q0,none⟩) len cap) hA rfl (wanted_none rfl) (by decide) (by kernel_rfl) rfl (by decide) (fun d=>run_move rfl (hA.get rfl)) (fun a (hA:Lvs 211 [(54,.slice (some ⟨g,q0,none⟩) len cap),(53,.int .i64 i),(1,.slice (some ⟨g,q0,none⟩) len cap),(2,.pointer (some ⟨cB,0,none⟩)),(5,.bool true),(6,vk),(8,vl),(9,.int .i64 i)] a)=>?_)
 have e54:=hA.get (t:=54) rfl
 refine lw_val (v:=.int .i64 len) hA rfl (wanted_none rfl) (by decide) (by kernel_rfl) rfl (by decide) (fun d=>run_len rfl Tryd.underlying35 e54) (fun a (hA:Lvs 211 [(55,.int .i64 len),(54,.slice (some ⟨g,q0,none⟩) len cap),(53,.int .i64 i),(1,.slice (some ⟨g,q0,none⟩) len cap),(2,.pointer (some ⟨cB,0,none⟩)),(5,.bool true),(6,vk),(8,vl),(9,.int .i64 i)] a)=>?_)
 clear e54
 obtain ⟨o,ho,hop,hd,hg⟩:∃ o,(cnOps 10)[3]?=some o∧o.op=.binOp .lss 3 (.tmp 53) (.tmp 55) 3∧o.dst=some 56∧o.guard=none:=⟨_,rfl,rfl,rfl,rfl⟩
 have e53:=hA.get (t:=53) rfl
 have e55:=hA.get (t:=55) rfl
 refine lw_val (v:=.bool true) hA ho (wanted_none hg) (by decide) (by rw [hop];rfl) hd (by decide) (fun d=>by unfold execOp;simp only [hop,e53,e55];go_simp) (fun a (hA:Lvs 211 [(56,.bool true),(55,.int .i64 len),(54,.slice (some ⟨g,q0,none⟩) len cap),(53,.int .i64 i),(1,.slice (some ⟨g,q0,none⟩) len cap),(2,.pointer (some ⟨cB,0,none⟩)),(5,.bool true),(6,vk),(8,vl),(9,.int .i64 i)] a)=>?_)
 clear ho hop hd hg e53 e55
 refine Br.liv_region_end ?_
 replace hA:Lvs 211 [(1,.slice (some ⟨g,q0,none⟩) len cap),(2,.pointer (some ⟨cB,0,none⟩)),(5,.bool true),(6,vk),(8,vl),(9,.int .i64 i),(56,.bool true)] a:=hA.sub (fun p hp=>by
  simp only [List.mem_cons,List.not_mem_nil,or_false] at hp
  rcases hp with rfl|rfl|rfl|rfl|rfl|rfl|rfl<;>rfl)
 refine Br.liv_cond (t:=true) (hA.get rfl) ?_
 refine Br.liv_skip ?_
 refine Br.liv_seq ?_
 refine Br.liv_block ?_
 refine Br.liv_seq ?_
 refine lw_region (n:=12) (m:=0) (il:=[0,1,2,3,4,5]) (by kernel_rfl) ?_
 refine lw_val (v:=.slice (some ⟨g,q0,none⟩) len cap) hA rfl (wanted_none rfl) (by decide) (by kernel_rfl) rfl (by decide) (fun d=>run_move rfl (hA.get rfl)) (fun a (hA:Lvs 211 [(59,.slice (some ⟨g,q0,none⟩) len cap),(1,.slice (some ⟨g,q0,none⟩) len cap),(2,.pointer (some ⟨cB,0,none⟩)),(5,.bool true),(6,vk),(8,vl),(9,.int .i64 i),(56,.bool true)] a)=>?_)
 refine lw_val (v:=.int .i64 i) hA rfl (wanted_none rfl) (by decide) (by kernel_rfl) rfl (by decide) (fun d=>run_move rfl (hA.get rfl)) (fun a (hA:Lvs 211 [(60,.int .i64 i),(59,.slice (some ⟨g,q0,none⟩) len cap),(1,.slice (some ⟨g,q0,none⟩) len cap),(2,.pointer (some ⟨cB,0,none⟩)),(5,.bool true),(6,vk),(8,vl),(9,.int .i64 i),(56,.bool true)] a)=>?_)
 obtain ⟨o,ho,hop,hd,hg⟩:∃ o,(cnOps 12)[2]?=some o∧o.op=.indexAddr 35 (.tmp 59) (.tmp 60)∧o.dst=some 61∧o.guard=none:=⟨_,rfl,rfl,rfl,rfl⟩
 have e59:=hA.get (t:=59) rfl
 have e60:=hA.get (t:=60) rfl
 refine lw_val (v:=.pointer (some ⟨g,q0+i*10,none⟩)) hA ho (wanted_none hg) (by decide) (by rw [hop];rfl) hd (by decide) (fun d=>by unfold execOp;simp only [hop,e59,e60];go_simp) (fun a (hA:Lvs 211 [(61,.pointer (some ⟨g,q0+i*10,none⟩)),(60,.int .i64 i),(59,.slice (some ⟨g,q0,none⟩) len cap),(1,.slice (some ⟨g,q0,none⟩) len cap),(2,.pointer (some ⟨cB,0,none⟩)),(5,.bool true),(6,vk),(8,vl),(9,.int .i64 i),(56,.bool true)] a)=>?_)
 clear ho hop hd hg e59 e60
 have hld:∀ d,(Instr.loadAt 40 (.pointer (some ⟨g,q0+i*10,none⟩))).run Tryd.prog (w.at d)=.ok (.agg (actCells ka s cl a0 a1 a2 o0 o1 o2 bb).toArray) (w.at d):=fun d=>run_loadAt_mid (w.at d) g (q0+i*10) 40 _ _ LA Tryd.underlying40 rfl (by kernel_rfl)
 obtain ⟨o,ho,hop,hd,hg⟩:∃ o,(cnOps 12)[3]?=some o∧o.op=.load 40 (.tmp 61)∧o.dst=some 62∧o.guard=none:=⟨_,rfl,rfl,rfl,rfl⟩
 have e61:=hA.get (t:=61) rfl
 refine lw_val (v:=.agg (actCells ka s cl a0 a1 a2 o0 o1 o2 bb).toArray) hA ho (wanted_none hg) (by decide) (by rw [hop];rfl) hd (by decide) (fun d=>by have hl:=hld d;unfold execOp;simp only [hop,e61];simp only [Sem.run_bind,hl,Result.andThen_ok];rfl) (fun a (hA:Lvs 211 [(62,.agg (actCells ka s cl a0 a1 a2 o0 o1 o2 bb).toArray),(61,.pointer (some ⟨g,q0+i*10,none⟩)),(60,.int .i64 i),(59,.slice (some ⟨g,q0,none⟩) len cap),(1,.slice (some ⟨g,q0,none⟩) len cap),(2,.pointer (some ⟨cB,0,none⟩)),(5,.bool true),(6,vk),(8,vl),(9,.int .i64 i),(56,.bool true)] a)=>?_)
 clear ho hop hd hg e61
 clear hld
 obtain ⟨o',ho,hop,hd,hg⟩:∃ o',(cnOps 12)[4]?=some o'∧o'.op=.alloc 40∧o'.dst=some 10∧o'.guard=none:=⟨_,rfl,rfl,rfl,rfl⟩
 refine lw_made (ob:=.cells #[.int .i64 0,.int .i64 0,.int .i64 0,.int .i64 0,.int .i64 0,.int .i64 0,.int .i64 0,.int .i64 0,.int .i64 0,.bool false] 40 (0,0)) (v:=.pointer (some ⟨w.heap.size,0,none⟩)) hA ho hg (by decide) hd (by decide) (fun d=>by unfold execOp;simp only [hop];go_simp;try rfl) (fun d=>by unfold execOp;simp only [hop];simp [go_sem]) trivial (fun a (hA:Lvs 211 [(10,.pointer (some ⟨w.heap.size,0,none⟩)),(62,.agg (actCells ka s cl a0 a1 a2 o0 o1 o2 bb).toArray),(61,.pointer (some ⟨g,q0+i*10,none⟩)),(60,.int .i64 i),(59,.slice (some ⟨g,q0,none⟩) len cap),(1,.slice (some ⟨g,q0,none⟩) len cap),(2,.pointer (some ⟨cB,0,none⟩)),(5,.bool true),(6,vk),(8,vl),(9,.int .i64 i),(56,.bool true)] a)=>?_)
 clear ho hop hd hg
 have hG:=grown_alloc (w:=w) trivial (ob:=.cells #[.int .i64 0,.int .i64 0,.int .i64 0,.int .i64 0,.int .i64 0,.int .i64 0,.int .i64 0,.int .i64 0,.int .i64 0,.bool false] 40 (0,0)) trivial
 have hX:=heap_alloc_new w (.cells #[.int .i64 0,.int .i64 0,.int .i64 0,.int .i64 0,.int .i64 0,.int .i64 0,.int .i64 0,.int .i64 0,.int .i64 0,.bool false] 40 (0,0))
 have hs1:(w.alloc (.cells #[.int .i64 0,.int .i64 0,.int .i64 0,.int .i64 0,.int .i64 0,.int .i64 0,.int .i64 0,.int .i64 0,.int .i64 0,.bool false] 40 (0,0))).heap.size=w.heap.size+1:=by simp
 have hft1:Fit (sfO l) (w.alloc (.cells #[.int .i64 0,.int .i64 0,.int .i64 0,.int .i64 0,.int .i64 0,.int .i64 0,.int .i64 0,.int .i64 0,.int .i64 0,.bool false] 40 (0,0))):=⟨fun j hj=>by
  obtain ⟨c,t,hc⟩:=hft.soft j hj
  exact ⟨c,t,by rw [hG.old j (Array.getElem?_eq_some_iff.1 hc).1];exact hc⟩,trivial⟩
 generalize w.alloc (.cells #[.int .i64 0,.int .i64 0,.int .i64 0,.int .i64 0,.int .i64 0,.int .i64 0,.int .i64 0,.int .i64 0,.int .i64 0,.bool false] 40 (0,0))=w1 at *
 have e10:=hA.get (t:=10) rfl
 have e62:=hA.get (t:=62) rfl
 obtain ⟨o',ho,hop,hd,hg⟩:∃ o',(cnOps 12)[5]?=some o'∧o'.op=.store 40 (.tmp 10) (.tmp 62)∧o'.dst=none∧o'.guard=none:=⟨_,rfl,rfl,rfl,rfl⟩
 refine lw_storeRow hA ho hg (by decide) hop hd hft1 e10 e62 hX (by rfl) (by kernel_rfl) (by kernel_rfl) (Br.sfO_zero fun o ho=>by have:=Br.KO.lt hko ho;omega) (fun w2 hs2 hk2 hX2=>?_)
 clear ho hop hd hg e10 e62
 have hG2:Grown w w2:=⟨by omega,fun j hj=>by rw [hk2 j (by omega)];exact hG.old j hj,trivial⟩
 have cell:∀ j x d,(actCells ka s cl a0 a1 a2 o0 o1 o2 bb)[j]?=some x→(w2.at d).cell? ⟨w.heap.size,j,none⟩=some x:=fun j x d hx=>by
  show w2.cell? _=_
  simp only [World.cell?,hX2]
  simpa using hx
 refine Br.liv_region_end ?_
 replace hA:Lvs 211 [(1,.slice (some ⟨g,q0,none⟩) len cap),(2,.pointer (some ⟨cB,0,none⟩)),(5,.bool true),(6,vk),(8,vl),(9,.int .i64 i),(10,.pointer (some ⟨w.heap.size,0,none⟩))] a:=hA.sub (fun p hp=>by
  simp only [List.mem_cons,List.not_mem_nil,or_false] at hp
  rcases hp with rfl|rfl|rfl|rfl|rfl|rfl|rfl<;>rfl)
 refine Br.liv_seq ?_
 refine lw_region (n:=13) (m:=0) (il:=[0,1]) (by kernel_rfl) ?_
 obtain ⟨o,ho,hop,hd,hg⟩:∃ o,(cnOps 13)[0]?=some o∧o.op=.fieldAddr 40 (.tmp 10) 0∧o.dst=some 63∧o.guard=none:=⟨_,rfl,rfl,rfl,rfl⟩
 have e10:=hA.get (t:=10) rfl
 refine lw_val (v:=.pointer (some ⟨w.heap.size,0,none⟩)) hA ho (wanted_none hg) (by decide) (by rw [hop];rfl) hd (by decide) (fun d=>by unfold execOp;simp only [hop,e10];go_simp) (fun a (hA:Lvs 211 [(63,.pointer (some ⟨w.heap.size,0,none⟩)),(1,.slice (some ⟨g,q0,none⟩) len cap),(2,.pointer (some ⟨cB,0,none⟩)),(5,.bool true),(6,vk),(8,vl),(9,.int .i64 i),(10,.pointer (some ⟨w.heap.size,0,none⟩))] a)=>?_)
 clear ho hop hd hg e10
 obtain ⟨o,ho,hop,hd,hg⟩:∃ o,(cnOps 13)[1]?=some o∧o.op=.load 3 (.tmp 63)∧o.dst=some 64∧o.guard=none:=⟨_,rfl,rfl,rfl,rfl⟩
 have e63:=hA.get (t:=63) rfl
 refine lw_val (v:=.int .i64 ka) hA ho (wanted_none hg) (by decide) (by rw [hop];rfl) hd (by decide) (fun d=>by have z0:=cell 0 _ d rfl;unfold execOp;simp only [hop,e63];go_simp) (fun a (hA:Lvs 211 [(64,.int .i64 ka),(63,.pointer (some ⟨w.heap.size,0,none⟩)),(1,.slice (some ⟨g,q0,none⟩) len cap),(2,.pointer (some ⟨cB,0,none⟩)),(5,.bool true),(6,vk),(8,vl),(9,.int .i64 i),(10,.pointer (some ⟨w.heap.size,0,none⟩))] a)=>?_)
 clear ho hop hd hg e63
 refine Br.liv_region_end ?_
 replace hA:Lvs 211 [(1,.slice (some ⟨g,q0,none⟩) len cap),(2,.pointer (some ⟨cB,0,none⟩)),(5,.bool true),(6,vk),(8,vl),(9,.int .i64 i),(10,.pointer (some ⟨w.heap.size,0,none⟩)),(64,.int .i64 ka)] a:=hA.sub (fun p hp=>by
  simp only [List.mem_cons,List.not_mem_nil,or_false] at hp
  rcases hp with rfl|rfl|rfl|rfl|rfl|rfl|rfl|rfl<;>rfl)
 refine Br.liv_block ?_
 refine Br.liv_seq ?_
 by_cases h2:ka=2
 ·skip
  refine lw_region (n:=15) (m:=0) (il:=[0,1]) (by kernel_rfl) ?_
  obtain ⟨o,ho,hop,hd,hg⟩:∃ o,(cnOps 15)[0]?=some o∧o.op=.binOp .eql 3 (.tmp 64) (.const (.int .i64 2)) 3∧o.dst=some 74∧o.guard=none:=⟨_,rfl,rfl,rfl,rfl⟩
  have e64:=hA.get (t:=64) rfl
  refine lw_val (v:=.bool true) hA ho (wanted_none hg) (by decide) (by rw [hop];rfl) hd (by decide) (fun d=>by unfold execOp;simp only [hop,e64];go_simp) (fun a (hA:Lvs 211 [(74,.bool true),(1,.slice (some ⟨g,q0,none⟩) len cap),(2,.pointer (some ⟨cB,0,none⟩)),(5,.bool true),(6,vk),(8,vl),(9,.int .i64 i),(10,.pointer (some ⟨w.heap.size,0,none⟩)),(64,.int .i64 ka)] a)=>?_)
  clear ho hop hd hg e64
  refine lw_val (v:=.bool true) hA rfl (wanted_none rfl) (by decide) (by kernel_rfl) rfl (by decide) (fun d=>run_assign rfl (hA.get rfl)) (fun a (hA:Lvs 211 [(73,.bool true),(74,.bool true),(1,.slice (some ⟨g,q0,none⟩) len cap),(2,.pointer (some ⟨cB,0,none⟩)),(5,.bool true),(6,vk),(8,vl),(9,.int .i64 i),(10,.pointer (some ⟨w.heap.size,0,none⟩)),(64,.int .i64 ka)] a)=>?_)
  refine Br.liv_region_end ?_
  replace hA:Lvs 211 [(1,.slice (some ⟨g,q0,none⟩) len cap),(2,.pointer (some ⟨cB,0,none⟩)),(5,.bool true),(6,vk),(8,vl),(9,.int .i64 i),(10,.pointer (some ⟨w.heap.size,0,none⟩)),(73,.bool true)] a:=hA.sub (fun p hp=>by
   simp only [List.mem_cons,List.not_mem_nil,or_false] at hp
   rcases hp with rfl|rfl|rfl|rfl|rfl|rfl|rfl|rfl<;>rfl)
  refine Br.liv_cond (t:=true) (hA.get rfl) ?_
  exact hB h2 a w2 hG2 hX2 (hA.sub (fun p hp=>by
   simp only [List.mem_cons,List.not_mem_nil,or_false] at hp
   rcases hp with rfl|rfl|rfl|rfl|rfl|rfl|rfl<;>rfl))
 ·clear hB
  refine lw_region (n:=15) (m:=0) (il:=[0,1]) (by kernel_rfl) ?_
  obtain ⟨o,ho,hop,hd,hg⟩:∃ o,(cnOps 15)[0]?=some o∧o.op=.binOp .eql 3 (.tmp 64) (.const (.int .i64 2)) 3∧o.dst=some 74∧o.guard=none:=⟨_,rfl,rfl,rfl,rfl⟩
  have e64:=hA.get (t:=64) rfl
  refine lw_val (v:=.bool false) hA ho (wanted_none hg) (by decide) (by rw [hop];rfl) hd (by decide) (fun d=>by unfold execOp;simp only [hop,e64];go_simp) (fun a (hA:Lvs 211 [(74,.bool false),(1,.slice (some ⟨g,q0,none⟩) len cap),(2,.pointer (some ⟨cB,0,none⟩)),(5,.bool true),(6,vk),(8,vl),(9,.int .i64 i),(10,.pointer (some ⟨w.heap.size,0,none⟩)),(64,.int .i64 ka)] a)=>?_)
  clear ho hop hd hg e64
  refine lw_val (v:=.bool false) hA rfl (wanted_none rfl) (by decide) (by kernel_rfl) rfl (by decide) (fun d=>run_assign rfl (hA.get rfl)) (fun a (hA:Lvs 211 [(73,.bool false),(74,.bool false),(1,.slice (some ⟨g,q0,none⟩) len cap),(2,.pointer (some ⟨cB,0,none⟩)),(5,.bool true),(6,vk),(8,vl),(9,.int .i64 i),(10,.pointer (some ⟨w.heap.size,0,none⟩)),(64,.int .i64 ka)] a)=>?_)
  refine Br.liv_region_end ?_
  replace hA:Lvs 211 [(1,.slice (some ⟨g,q0,none⟩) len cap),(2,.pointer (some ⟨cB,0,none⟩)),(5,.bool true),(6,vk),(8,vl),(9,.int .i64 i),(10,.pointer (some ⟨w.heap.size,0,none⟩)),(64,.int .i64 ka),(73,.bool false)] a:=hA.sub (fun p hp=>by
   simp only [List.mem_cons,List.not_mem_nil,or_false] at hp
   rcases hp with rfl|rfl|rfl|rfl|rfl|rfl|rfl|rfl|rfl<;>rfl)
  refine Br.liv_cond (t:=false) (hA.get rfl) ?_
  refine Br.liv_seq ?_
  by_cases h3:ka=3
  ·skip
   refine lw_region (n:=17) (m:=0) (il:=[0,1]) (by kernel_rfl) ?_
   obtain ⟨o,ho,hop,hd,hg⟩:∃ o,(cnOps 17)[0]?=some o∧o.op=.binOp .eql 3 (.tmp 64) (.const (.int .i64 3)) 3∧o.dst=some 82∧o.guard=none:=⟨_,rfl,rfl,rfl,rfl⟩
   have e64:=hA.get (t:=64) rfl
   refine lw_val (v:=.bool true) hA ho (wanted_none hg) (by decide) (by rw [hop];rfl) hd (by decide) (fun d=>by unfold execOp;simp only [hop,e64];go_simp) (fun a (hA:Lvs 211 [(82,.bool true),(1,.slice (some ⟨g,q0,none⟩) len cap),(2,.pointer (some ⟨cB,0,none⟩)),(5,.bool true),(6,vk),(8,vl),(9,.int .i64 i),(10,.pointer (some ⟨w.heap.size,0,none⟩)),(64,.int .i64 ka),(73,.bool false)] a)=>?_)
   clear ho hop hd hg e64
   refine lw_val (v:=.bool true) hA rfl (wanted_none rfl) (by decide) (by kernel_rfl) rfl (by decide) (fun d=>run_assign rfl (hA.get rfl)) (fun a (hA:Lvs 211 [(81,.bool true),(82,.bool true),(1,.slice (some ⟨g,q0,none⟩) len cap),(2,.pointer (some ⟨cB,0,none⟩)),(5,.bool true),(6,vk),(8,vl),(9,.int .i64 i),(10,.pointer (some ⟨w.heap.size,0,none⟩)),(64,.int .i64 ka),(73,.bool false)] a)=>?_)
   refine Br.liv_region_end ?_
   replace hA:Lvs 211 [(1,.slice (some ⟨g,q0,none⟩) len cap),(2,.pointer (some ⟨cB,0,none⟩)),(5,.bool true),(6,vk),(8,vl),(9,.int .i64 i),(10,.pointer (some ⟨w.heap.size,0,none⟩)),(81,.bool true)] a:=hA.sub (fun p hp=>by
    simp only [List.mem_cons,List.not_mem_nil,or_false] at hp
    rcases hp with rfl|rfl|rfl|rfl|rfl|rfl|rfl|rfl<;>rfl)
   refine Br.liv_cond (t:=true) (hA.get rfl) ?_
   exact hP h2 h3 a w2 hG2 hX2 (hA.sub (fun p hp=>by
    simp only [List.mem_cons,List.not_mem_nil,or_false] at hp
    rcases hp with rfl|rfl|rfl|rfl|rfl|rfl|rfl<;>rfl))
  ·clear hP
   refine lw_region (n:=17) (m:=0) (il:=[0,1]) (by kernel_rfl) ?_
   obtain ⟨o,ho,hop,hd,hg⟩:∃ o,(cnOps 17)[0]?=some o∧o.op=.binOp .eql 3 (.tmp 64) (.const (.int .i64 3)) 3∧o.dst=some 82∧o.guard=none:=⟨_,rfl,rfl,rfl,rfl⟩
   have e64:=hA.get (t:=64) rfl
   refine lw_val (v:=.bool false) hA ho (wanted_none hg) (by decide) (by rw [hop];rfl) hd (by decide) (fun d=>by unfold execOp;simp only [hop,e64];go_simp) (fun a (hA:Lvs 211 [(82,.bool false),(1,.slice (some ⟨g,q0,none⟩) len cap),(2,.pointer (some ⟨cB,0,none⟩)),(5,.bool true),(6,vk),(8,vl),(9,.int .i64 i),(10,.pointer (some ⟨w.heap.size,0,none⟩)),(64,.int .i64 ka),(73,.bool false)] a)=>?_)
   clear ho hop hd hg e64
   refine lw_val (v:=.bool false) hA rfl (wanted_none rfl) (by decide) (by kernel_rfl) rfl (by decide) (fun d=>run_assign rfl (hA.get rfl)) (fun a (hA:Lvs 211 [(81,.bool false),(82,.bool false),(1,.slice (some ⟨g,q0,none⟩) len cap),(2,.pointer (some ⟨cB,0,none⟩)),(5,.bool true),(6,vk),(8,vl),(9,.int .i64 i),(10,.pointer (some ⟨w.heap.size,0,none⟩)),(64,.int .i64 ka),(73,.bool false)] a)=>?_)
   refine Br.liv_region_end ?_
   replace hA:Lvs 211 [(1,.slice (some ⟨g,q0,none⟩) len cap),(2,.pointer (some ⟨cB,0,none⟩)),(5,.bool true),(6,vk),(8,vl),(9,.int .i64 i),(10,.pointer (some ⟨w.heap.size,0,none⟩)),(81,.bool false)] a:=hA.sub (fun p hp=>by
    simp only [List.mem_cons,List.not_mem_nil,or_false] at hp
    rcases hp with rfl|rfl|rfl|rfl|rfl|rfl|rfl|rfl<;>rfl)
   refine Br.liv_cond (t:=false) (hA.get rfl) ?_
   exact hC h2 h3 a w2 hG2 hX2 (hA.sub (fun p hp=>by
    simp only [List.mem_cons,List.not_mem_nil,or_false] at hp
    rcases hp with rfl|rfl|rfl|rfl|rfl|rfl|rfl<;>rfl))
end Go.Proofs.YtcgabodkegcpgaaDoor
