/- What holds at the head of a checker's loop of acts, and how each act keeps it. -/
import Derived.Test.YtcgabodkegcpgaaDoorDna
import Derived.Test.YtcgabodkegcpgaaDoorProg
import Derived.WalkKit
import Derived.Deep.MidRow
import Derived.Test.YtcgabodkegcpgaaDoorOqo
set_option linter.unusedVariables false
set_option linter.unusedSimpArgs false
set_option maxHeartbeats 20000000
set_option maxRecDepth 100000
namespace Go.Proofs.YtcgabodkegcpgaaDoor
open Go.Conc Go.RowKit
open Br (X OpD KO SO SP sfO Lk Fit Must DL Liv Clear)
structure CI (w0:World) (kb:Kb) (b:Lb) (n i:Nat) (l:List OpD) (K:Ker) (L:Nat→Option Lv) (r:Nat) (Inb:Nat→Option Seat) (nG:Nat) (w:World) (U:Nat→Option OpD) (V:Nat→Value) (N:Nat→Nat) (Xs:Nat→List Value):Prop where
 co:Co kb l K L r Inb nG w
 hn:K.nS=n
 lm:LibM kb l L w b n (b.bl+1) U V N Xs
 g0:0<nG
 u1:∀ p q o,p<n→q<n→U p=some o→U q=some o→p=q
 all:∀ g v,L g=some v→∃ p,p<n∧U p=some v.C.o
 nb:∀ p,p<n→N p≤i
 ints:∀ p,p<n→∀ x∈Xs p,∃ z,x=.int .i64 z
 old:∀ k,k<w0.heap.size→Mn kb L w k∧w.heap[k]?=w0.heap[k]?
 far:w0.heap.size≤b.bl∧w0.heap.size≤b.bu∧w0.heap.size≤b.bn
section
variable {w0:World} {kb:Kb} {b:Lb} {n i:Nat} {l:List OpD} {K:Ker} {L:Nat→Option Lv} {r:Nat} {Inb:Nat→Option Seat} {nG:Nat} {w w':World} {U:Nat→Option OpD} {V:Nat→Value} {N:Nat→Nat} {Xs:Nat→List Value}
theorem CI.grown (h:CI w0 kb b n i l K L r Inb nG w U V N Xs)(g:Grown w w'):CI w0 kb b n i l K L r Inb nG w' U V N Xs :=
 ⟨h.co.grown g,h.hn,h.lm.grown g,h.g0,h.u1,h.all,h.nb,h.ints,fun k hk=>⟨(h.old k hk).1.grow g.size,(g.old k (h.old k hk).1.lt).trans (h.old k hk).2⟩,h.far⟩
theorem CI.more (h:CI w0 kb b n i l K L r Inb nG w U V N Xs){j:Nat}(hj:i≤j):CI w0 kb b n j l K L r Inb nG w U V N Xs :=
 ⟨h.co,h.hn,h.lm,h.g0,h.u1,h.all,fun p hp=>Nat.le_trans (h.nb p hp) hj,h.ints,h.old,h.far⟩
theorem CI.less (h:CI w0 kb b n i l K L r Inb nG w U V N Xs){r':Nat}(hr:r'≤r):CI w0 kb b n i l K L r' Inb nG w U V N Xs :=
 ⟨⟨h.co.env,h.co.top,h.co.gid,h.co.onk,h.co.at_,fun g v hv=>(h.co.wait g v hv).imp fun m hm=>⟨Nat.le_trans hr hm.1,hm.2⟩,h.co.seat,h.co.none,h.co.main0,h.co.chan,h.co.chne,h.co.pvch,h.co.apart⟩,h.hn,h.lm,h.g0,h.u1,h.all,h.nb,h.ints,h.old,h.far⟩
theorem CI.call (h:CI w0 kb b n i l K L r Inb nG w U V N Xs){K':Ker}(co:Co kb l K' L r Inb nG w')(hS:K'.nS=K.nS)(hk:Kp kb L w L w'):CI w0 kb b n i l K' L r Inb nG w' U V N Xs :=
 ⟨co,hS.trans h.hn,h.lm.same hk,h.g0,h.u1,h.all,h.nb,h.ints,fun k hlt=>⟨(hk k (h.old k hlt).1).1,(hk k (h.old k hlt).1).2.trans (h.old k hlt).2⟩,h.far⟩
theorem CI.begun (h:CI w0 kb b n i l K L r Inb nG w U V N Xs){p:Nat}(hp:p<n)(hU:U p=none){C:Ctx}{S:Ker→Strat}{pv:List Nat}{H:Heap}{cs:List Frame}{Inb':Nat→Option Seat}(hg:C.o.gid=nG)
  (co:Co kb (C.o::l) K (ConcN.upd L nG (some ⟨C,S,pv,H,cs⟩)) r Inb' (nG+1) w')(hk:∀ k,Mn kb L w k→k≠b.bu→Mn kb (ConcN.upd L nG (some ⟨C,S,pv,H,cs⟩)) w' k∧w'.heap[k]?=w.heap[k]?)
  (lm:LibM kb (C.o::l) (ConcN.upd L nG (some ⟨C,S,pv,H,cs⟩)) w' b n (b.bl+1) (setO U p C.o) V N Xs):CI w0 kb b n i (C.o::l) K (ConcN.upd L nG (some ⟨C,S,pv,H,cs⟩)) r Inb' (nG+1) w' (setO U p C.o) V N Xs:=by
 have lt:∀ q o,q<n→U q=some o→o.gid<nG:=fun q o hq ho=>by
  obtain ⟨v,h1,h2,_⟩:=h.lm.live q hq o ho
  exact (h.co.gid _ v h1).2.2
 refine ⟨co,h.hn,lm,by omega,fun q q' o hq hq' e e'=>?_,fun g v hv=>?_,h.nb,h.ints,fun k hlt=>?_,h.far⟩
 ·unfold setO at e e'
  split at e<;>split at e'
  ·omega
  ·obtain rfl:=Option.some.inj e;have:=lt q' _ hq' e';omega
  ·obtain rfl:=Option.some.inj e';have:=lt q _ hq e;omega
  ·exact h.u1 q q' o hq hq' e e'
 ·by_cases eg:g=nG
  ·subst eg
   rw [ConcN.upd_same] at hv
   obtain rfl:=Option.some.inj hv
   exact ⟨p,hp,by simp [setO]⟩
  ·rw [ConcN.upd_ne _ _ eg] at hv
   obtain ⟨q,hq,e⟩:=h.all g v hv
   exact ⟨q,hq,by unfold setO;rw [if_neg (fun x=>by subst x;rw [hU] at e;cases e)];exact e⟩
 ·obtain ⟨m1,m2⟩:=hk k (h.old k hlt).1 (by have:=h.far.2.1;omega)
  exact ⟨m1,m2.trans (h.old k hlt).2⟩
theorem CI.goes (h:CI w0 kb b n i l K L (r+1) Inb nG w U V N Xs){v v':Lv}(hv:L v.C.o.gid=some v)(hC:v'.C=v.C){K':Ker}{Inb':Nat→Option Seat}
  (co:Co kb l K' (ConcN.upd L v.C.o.gid (some v')) r Inb' nG w')(hS:K'.nS=K.nS)(hk:Kp kb L w (ConcN.upd L v.C.o.gid (some v')) w')(lm:LibM kb l (ConcN.upd L v.C.o.gid (some v')) w' b n (b.bl+1) U V N Xs) :
  CI w0 kb b n i l K' (ConcN.upd L v.C.o.gid (some v')) r Inb' nG w' U V N Xs:=by
 refine ⟨co,hS.trans h.hn,lm,h.g0,h.u1,fun g u hu=>?_,h.nb,h.ints,fun k hlt=>?_,h.far⟩
 ·by_cases eg:g=v.C.o.gid
  ·subst eg
   rw [ConcN.upd_same] at hu
   obtain rfl:=Option.some.inj hu
   rw [hC]
   exact h.all _ v hv
  ·rw [ConcN.upd_ne _ _ eg] at hu
   exact h.all g u hu
 ·obtain ⟨m1,m2⟩:=hk k (h.old k hlt).1
  exact ⟨m1,m2.trans (h.old k hlt).2⟩
theorem CI.over (h:CI w0 kb b n i l K L (r+1) Inb nG w U V N Xs){p:Nat}(hp:p<n){v:Lv}(hU:U p=some v.C.o)(hv:L v.C.o.gid=some v){K':Ker}{Inb':Nat→Option Seat}{g cap:Nat}{err val:Int}
  (co:Co kb l K' (ConcN.upd L v.C.o.gid none) r Inb' nG w')(hS:K'.nS=K.nS)(hk:∀ k,Mn kb L w k→¬ LibEx b V p k→Mn kb (ConcN.upd L v.C.o.gid none) w' k∧w'.heap[k]?=w.heap[k]?)
  (lm:LibM kb l (ConcN.upd L v.C.o.gid none) w' b n (b.bl+1) (setU U p) (setV V p (.slice (some ⟨g,0,none⟩) (N p+1) cap)) (setV N p (N p+1)) (setV Xs p (Xs p ++ ent v.C.kd v.C.A v.C.B err val))) :
  CI w0 kb b n (i+1) l K' (ConcN.upd L v.C.o.gid none) r Inb' nG w' (setU U p) (setV V p (.slice (some ⟨g,0,none⟩) (N p+1) cap)) (setV N p (N p+1)) (setV Xs p (Xs p ++ ent v.C.kd v.C.A v.C.B err val)):=by
 refine ⟨co,hS.trans h.hn,lm,h.g0,fun q q' o hq hq' e e'=>?_,fun g' u hu=>?_,fun q hq=>?_,fun q hq x hx=>?_,fun k hlt=>?_,h.far⟩
 ·unfold setU at e e'
  split at e
  ·cases e
  ·split at e'
   ·cases e'
   ·exact h.u1 q q' o hq hq' e e'
 ·by_cases eg:g'=v.C.o.gid
  ·subst eg;rw [ConcN.upd_same] at hu;cases hu
  ·rw [ConcN.upd_ne _ _ eg] at hu
   obtain ⟨q,hq,e⟩:=h.all g' u hu
   refine ⟨q,hq,?_⟩
   unfold setU
   rw [if_neg (fun x=>?_)]
   ·exact e
   ·subst x
    rw [hU] at e
    have e2:=Option.some.inj e
    have:=(h.co.gid g' u hu).1
    rw [← this,e2] at eg
    exact eg rfl
 ·unfold setV
  split
  ·have:=h.nb p hp;omega
  ·have:=h.nb q hq;omega
 ·unfold setV at hx
  split at hx
  ·rcases List.mem_append.1 hx with hx|hx
   ·exact h.ints p hp x hx
   ·simp only [ent,List.mem_cons,List.not_mem_nil,or_false] at hx
    rcases hx with rfl|rfl|rfl|rfl|rfl<;>exact ⟨_,rfl⟩
  ·exact h.ints q hq x hx
 ·obtain ⟨m1,m2⟩:=hk k (h.old k hlt).1 (fun e=>by
   obtain ⟨f1,f2,f3⟩:=h.far
   rcases e with e|e|e
   ·omega
   ·omega
   ·have:=(owns_lt (h.lm.m.is.own p hp) e).1
    omega)
  exact ⟨m1,m2.trans (h.old k hlt).2⟩
theorem CI.cancelled (h:CI w0 kb b n i l K L r Inb nG w U V N Xs){L':Nat→Option Lv}{Inb':Nat→Option Seat}(co:Co kb l K L' r Inb' nG w')(lm:LibM kb l L' w' b n (b.bl+1) (fun _=>none) V N Xs)
  (hk:∀ k,Mn kb L w k→k≠b.bu→Mn kb L' w' k∧w'.heap[k]?=w.heap[k]?)(hL:∀ g v,L' g=some v→L g=some v∧∀ p,p<n→U p≠some v.C.o) :
  CI w0 kb b n i l K L' r Inb' nG w' (fun _=>none) V N Xs∧∀ g,L' g=none:=by
 have hN:∀ g,L' g=none:=fun g=>by
  cases e:L' g with
  | none=>rfl
  | some v =>
   obtain ⟨h1,h2⟩:=hL g v e
   obtain ⟨p,hp,hU⟩:=h.all g v h1
   exact (h2 p hp hU).elim
 refine ⟨⟨co,h.hn,lm,h.g0,fun p q o _ _ e=>(by cases e),fun g v hv=>(by rw [hN g] at hv;cases hv),h.nb,h.ints,fun k hlt=>?_,h.far⟩,hN⟩
 obtain ⟨m1,m2⟩:=hk k (h.old k hlt).1 (by have:=h.far.2.1;omega)
 exact ⟨m1,m2.trans (h.old k hlt).2⟩
end
end Go.Proofs.YtcgabodkegcpgaaDoor
namespace Go.Proofs.YtcgabodkegcpgaaDoor
open Go.RowKit
end Go.Proofs.YtcgabodkegcpgaaDoor
namespace Go.Proofs.YtcgabodkegcpgaaDoor
open Go.Conc Go.RowKit
open Br (X OpD KO SO SP sfO Lk Fit Must DL Liv Clear)
theorem row_eq {w:World}{b t:Nat}{cs:Array Value}{f:Nat→Value}(h:w.rowIs b t cs.size f)(hf:∀ j,j<cs.size→cs[j]?=some (f j)):w.heap[b]?=some (.cells cs t (0,0)):=by
 obtain ⟨c,h1,h2,h3⟩:=h
 have e:c=cs:=Array.ext_getElem? fun i=>by
  rcases Nat.lt_or_ge i cs.size with g|g
  ·rw [h3 i g,hf i g]
  ·rw [Array.getElem?_eq_none (by omega),Array.getElem?_eq_none g]
 rw [h1,e]
theorem setCells_all {w:World}{b t:Nat}{c cs:Array Value}(h:w.heap[b]?=some (.cells c t (0,0)))(hs:c.size=cs.size):(w.setCells b 0 cs.toList).heap[b]?=some (.cells cs t (0,0)):=by
 have hr:w.rowIs b t cs.size (fun j=>c.getD j (.bool false)):=⟨c,h,hs,fun j hj=>by simp [Array.getD_eq_getD_getElem?,hs▸hj]⟩
 refine row_eq (rowIs_setCells cs.toList 0 hr) fun j hj=>?_
 rw [if_pos (by simp;omega),Nat.sub_zero,List.getD_eq_getElem?_getD]
 simp [hj]
theorem lw_storeRow {sz:Nat}{env:List (Nat × Value)}{main:Bool}{sft:Nat→Nat}{Stop:Goroutine→World→Prop}{b:Frame}{a:Act}{ops:Array Oper}{i x y bx t ty:Nat}{o:Oper}{rest:List Nat}{k:List Item}{cs:List Frame}{w:World}{c0 cells:Array Value}(hA:Lvs sz env a)(ho:ops[i]?=some o)(hg:o.guard=none)(hk:b.kind≠.early)(hop:o.op=.store ty (.tmp x) (.tmp y))(hd:o.dst=none)(hft:Fit sft w)
  (ex:a.eval (.tmp x)=.pointer (some ⟨bx,0,none⟩))(ey:a.eval (.tmp y)=.agg cells)(hb:w.heap[bx]?=some (.cells c0 t (0,0)))(hc:c0.size=cells.size)(hi:(Tryd.prog.info? ty).map (·.size)=some cells.size)(h1:cells.all (·.oneCell')=true)(hz:sft bx=0)
  (h:∀ w',w'.heap.size=w.heap.size→(∀ k,k≠bx→w'.heap[k]?=w.heap[k]?)→w'.heap[bx]?=some (.cells cells t (0,0))→Liv Tryd.prog main true sft Stop (G (b.at a (.inRegion ops rest::k)) cs) w') :
  Liv Tryd.prog main true sft Stop (G (b.at a (.inRegion ops (i::rest)::k)) cs) w:=by
 have row:∀ d v,Lk sft v (w.at d)→v.heap[bx]?=some (.cells c0 t (0,0)):=fun d v hv=>by
  rw [lk_same (w:=w.at d) hv hz (.inl ⟨_,_,_,hb⟩)];exact hb
 refine lw_skipped (R:=fun v v'=>v'=v.setCells bx 0 cells.toList) hA ho hg hk (by rw [hop];rfl) hd hft (fun d v hv=>⟨_,?_,rfl⟩) (fun d w2 v v' hv hl' hkp hR=>?_)
 ·have hr:=row d v hv
  have ht:v.there bx 0 cells.size:=rowIs_there (t:=t) (n:=cells.size) (f:=fun j=>c0.getD j (.bool false)) ⟨c0,hr,hc,fun j hj=>by simp [Array.getD_eq_getD_getElem?,hc▸hj]⟩ (by omega)
  unfold execOp
  simp only [hop,ex,ey]
  have:=run_storeAt_mid (P:=Tryd.prog) v bx 0 ty cells ht hi h1
  simp only [Sem.run_bind,this,Result.andThen_ok]
  rfl
 ·subst hR
  have sv:v.heap.size=w.heap.size:=hv.size
  have sv':=hl'.size
  rw [size_setCells] at sv'
  have hv3:=setCells_all (row d v hv) hc
  refine h w2 (by omega) (fun k hne=>?_) ?_
  ·exact same_block (w:=w.at d) hkp hv hl' (heap_setCells hne _ _ _)
  ·rw [← lk_same hl' hz (.inr ⟨_,_,_,hv3⟩)];exact hv3
theorem run_len {P:Program}{o:Oper}{a:Act}{x:Operand}{t e:TypeId}{ad:Option Addr}{n c:Nat}{w:World}(hop:o.op=.call { callee:=.builtin .len,args:=#[x],argTypes:=#[t] })(hu:P.underlying t=some (.slice e))(hx:a.eval x=.slice ad n c):(execOp a.eval o).run P w=.ok (.value (.int .i64 n)) w:=by
 simp [execOp,hop,resolve,invoke,builtin,hx,Builtin.len_,goInt,Result.andThen,run_underlying hu]
theorem grown_at (w:World)(d:Nat):Grown w (w.at d):=⟨Nat.le_refl _,fun _ _=>rfl,trivial⟩
section
variable {kb:Kb} {l:List OpD} {K:Ker} {L:Nat→Option Lv} {r:Nat} {Inb:Nat→Option Seat} {nG:Nat} {w w':World}
theorem Co.bkMn (co:Co kb l K L r Inb nG w):Mn kb L w kb.bk:=by
 have R:=co.env.rep
 refine ⟨R.lk,R.kf,R.ks,R.kd,fun g v hv=>⟨fun hi=>?_,fun hc=>?_⟩⟩
 ·obtain ⟨f,u,A⟩:=co.at_ g v hv
  have:=(A.own.ap _ hi).1
  rw [(co.onk g v hv).k] at this
  exact this rfl
 ·exact (co.chan g v hv _ hc).2.1 rfl
theorem Co.nS (co:Co kb l K L r Inb nG w){l':List OpD}{K':Ker}{L':Nat→Option Lv}{r':Nat}{Inb':Nat→Option Seat}{nG':Nat}(co':Co kb l' K' L' r' Inb' nG' w')(hk:w'.heap[kb.bk]?=w.heap[kb.bk]?):K'.nS=K.nS:=(sizes_of co.env.rep co'.env.rep hk).2.1
end
structure EX (ks:List (Nat × Obj)) (kb:Kb) (b:Lb) (l:List OpD) (L:Nat→Option Lv) (w:World):Prop where
 mn:∀ p∈ks,Mn kb L w p.1
 rc:∀ p∈ks,∀ o∈l,o.bo≠p.1
 nu:∀ p∈ks,p.1≠b.bu
 has:∀ p∈ks,w.heap[p.1]?=some p.2
section
variable {ks:List (Nat × Obj)} {kb:Kb} {b:Lb} {l:List OpD} {K:Ker} {L L':Nat→Option Lv} {r:Nat} {Inb:Nat→Option Seat} {nG:Nat} {w w':World}
theorem EX.nil:EX [] kb b l L w:=⟨fun p h=>(by cases h),fun p h=>(by cases h),fun p h=>(by cases h),fun p h=>(by cases h)⟩
theorem EX.grown (h:EX ks kb b l L w)(g:Grown w w'):EX ks kb b l L w' :=
 ⟨fun p hp=>(h.mn p hp).grow g.size,h.rc,h.nu,fun p hp=>(g.old _ (h.mn p hp).lt).trans (h.has p hp)⟩
theorem EX.sf (h:EX ks kb b l L w){p:Nat × Obj}(hp:p∈ks):sfO l p.1=0:=Br.sfO_zero (h.rc p hp)
theorem EX.add (h:EX ks kb b l L w')(co:Co kb l K L r Inb nG w){k:Nat}{o:Obj}(h1:w.heap.size≤k)(h2:w'.heap[k]?=some o)(hu:b.bu<w.heap.size):EX ((k,o)::ks) kb b l L w':=by
 have m:=co.new (w':=w') h1 (Array.getElem?_eq_some_iff.1 h2).1
 refine ⟨fun p hp=>?_,fun p hp=>?_,fun p hp=>?_,fun p hp=>?_⟩<;>rcases List.mem_cons.1 hp with rfl|hp
 ·exact m.mn
 ·exact h.mn p hp
 ·exact m.rc
 ·exact h.rc p hp
 ·show k≠b.bu;omega
 ·exact h.nu p hp
 ·exact h2
 ·exact h.has p hp
theorem EX.sub {ks':List (Nat × Obj)}(h:EX ks kb b l L w)(hs:∀ p∈ks',p∈ks):EX ks' kb b l L w:=⟨fun p hp=>h.mn p (hs p hp),fun p hp=>h.rc p (hs p hp),fun p hp=>h.nu p (hs p hp),fun p hp=>h.has p (hs p hp)⟩
theorem EX.keep (h:EX ks kb b l L w){l':List OpD}(hl:∀ p∈ks,∀ o∈l',o∈l∨o.bo≠p.1)(hk:∀ k,Mn kb L w k→k≠b.bu→Mn kb L' w' k∧w'.heap[k]?=w.heap[k]?):EX ks kb b l' L' w' :=
 ⟨fun p hp=>(hk _ (h.mn p hp) (h.nu p hp)).1,fun p hp o ho=>(hl p hp o ho).elim (h.rc p hp o) id,h.nu,fun p hp=>(hk _ (h.mn p hp) (h.nu p hp)).2.trans (h.has p hp)⟩
theorem EX.begun (h:EX ks kb b l L w){C:Ctx}{S:Ker→Strat}{H:Heap}{cs:List Frame}(hk:∀ k,Mn kb L w k→k≠b.bu→Mn kb (ConcN.upd L nG (some ⟨C,S,[C.o.bo],H,cs⟩)) w' k∧w'.heap[k]?=w.heap[k]?):EX ks kb b (C.o::l) (ConcN.upd L nG (some ⟨C,S,[C.o.bo],H,cs⟩)) w':=by
 refine h.keep (fun p hp o ho=>?_) hk
 rcases List.mem_cons.1 ho with rfl|ho
 ·right
  intro e
  have:=((hk _ (h.mn p hp) (h.nu p hp)).1.own nG _ (ConcN.upd_same ..)).1
  exact this (by rw [e];exact List.mem_singleton.2 rfl)
 ·exact .inl ho
theorem EX.cancelled (h:EX ks kb b l L w)(hk:∀ k,Mn kb L w k→k≠b.bu→Mn kb L' w' k∧w'.heap[k]?=w.heap[k]?):EX ks kb b l L' w':=h.keep (fun _ _ o ho=>.inl ho) hk
end
section
variable {l:List OpD} {main:Bool} {sft:Nat→Nat} {Stop:Goroutine→World→Prop} {b:Frame} {a:Act} {ops:Array Oper} {i:Nat} {o:Oper} {rest:List Nat} {k:List Item} {cs:List Frame} {w:World} {v:Value}
end
structure DN (ws w:World) (N:Nat→Nat) (Xs:Nat→List Value) (p:Nat) (V:Value) (dn:List Value):Prop where
 own:w.ownsRow ws.heap.size 65 1 V p dn
 row:∀ q,q<p→∃ d,dn[q]?=some (.slice (some ⟨d,0,none⟩) (N q) (N q))∧ws.heap.size≤d∧V.ownBlock≠some d∧w.rowIs d 70 (N q*5) (fun j=>(Xs q).getD j (.bool false))
structure ES (S:Nat→Prop) (wr:World) (kb:Kb) (b:Lb) (l:List OpD) (L:Nat→Option Lv) (w:World):Prop where
 mn:∀ k,S k→Mn kb L w k
 rc:∀ k,S k→∀ o∈l,o.bo≠k
 nu:∀ k,S k→k≠b.bu
 has:∀ k,S k→w.heap[k]?=wr.heap[k]?
section
variable {S:Nat→Prop} {wr:World} {kb:Kb} {b:Lb} {l:List OpD} {L L':Nat→Option Lv} {nG:Nat} {w w':World}
theorem ES.grown (h:ES S wr kb b l L w)(g:Grown w w'):ES S wr kb b l L w' :=
 ⟨fun k hk=>(h.mn k hk).grow g.size,h.rc,h.nu,fun k hk=>(g.old _ (h.mn k hk).lt).trans (h.has k hk)⟩
theorem ES.sf (h:ES S wr kb b l L w){k:Nat}(hk:S k):sfO l k=0:=Br.sfO_zero (h.rc k hk)
theorem ES.keep (h:ES S wr kb b l L w){l':List OpD}(hl:∀ k,S k→∀ o∈l',o∈l∨o.bo≠k)(hk:∀ k,Mn kb L w k→k≠b.bu→Mn kb L' w' k∧w'.heap[k]?=w.heap[k]?):ES S wr kb b l' L' w' :=
 ⟨fun k hs=>(hk _ (h.mn k hs) (h.nu k hs)).1,fun k hs o ho=>(hl k hs o ho).elim (h.rc k hs o) id,h.nu,fun k hs=>(hk _ (h.mn k hs) (h.nu k hs)).2.trans (h.has k hs)⟩
theorem ES.begun (h:ES S wr kb b l L w){C:Ctx}{St:Ker→Strat}{H:Heap}{cs:List Frame}(hk:∀ k,Mn kb L w k→k≠b.bu→Mn kb (ConcN.upd L nG (some ⟨C,St,[C.o.bo],H,cs⟩)) w' k∧w'.heap[k]?=w.heap[k]?):ES S wr kb b (C.o::l) (ConcN.upd L nG (some ⟨C,St,[C.o.bo],H,cs⟩)) w':=by
 refine h.keep (fun k hs o ho=>?_) hk
 rcases List.mem_cons.1 ho with rfl|ho
 ·right
  intro e
  have:=((hk _ (h.mn k hs) (h.nu k hs)).1.own nG _ (ConcN.upd_same ..)).1
  exact this (by rw [e];exact List.mem_singleton.2 rfl)
 ·exact .inl ho
theorem ES.cancelled (h:ES S wr kb b l L w)(hk:∀ k,Mn kb L w k→k≠b.bu→Mn kb L' w' k∧w'.heap[k]?=w.heap[k]?):ES S wr kb b l L' w':=h.keep (fun _ _ o ho=>.inl ho) hk
end
theorem DN.of {ws w w':World}{N:Nat→Nat}{Xs:Nat→List Value}{p:Nat}{V:Value}{dn:List Value}(h:DN ws w N Xs p V dn)(hk:∀ k,ws.heap.size≤k→k<w.heap.size→w'.heap[k]?=w.heap[k]?):DN ws w' N Xs p V dn :=
 ⟨owns_same h.own (fun g hg=>hk g (owns_lt h.own hg).1 (owns_lt h.own hg).2),fun q hq=>by
  obtain ⟨d,d1,d2,d3,d4⟩:=h.row q hq
  exact ⟨d,d1,d2,d3,d4.of_block (hk d d2 (row_lt d4))⟩⟩
theorem stepG_home {P:Program}{fn:Func}{b:Frame}{a:Act}{todo:List Item}{v:Value}{w:World}(hn:b.kind=.normal)(hd:a.defers=[])(hf:P.funcs[b.fn]?=some fn)(hi:P.inits.idxOf? b.fn=none)(hr:ResultsC P fn a.tmps v) :
  stepG P true (G { b.at a todo with mode:=.returning } []) w=.ended (.done v) w #[]:=by
 simp [G,stepG,unwind,doReturn,Frame.at,hn,hd,hf,hi,(hr w).1,(hr w).2,seen,GStep.after]
end Go.Proofs.YtcgabodkegcpgaaDoor
namespace Go.Proofs.YtcgabodkegcpgaaDoor
inductive Alone (slot:Int):Strat→Ker→Nat→Strat→Ker→Prop
 | nil (s:Strat) (K:Ker):Alone slot s K 0 s K
 | call {s s':Strat} {K K':Ker} {n:Nat} (num a b c:Int) (h:s []=.call num a b c) (hn:Alone slot (s.after (kCall K slot num a b c).n (kCall K slot num a b c).e) (kCall K slot num a b c).K n s' K'):Alone slot s K (n+1) s' K'
section
variable {slot:Int} {K K':Ker} {n:Nat} {s':Strat}
theorem alone_call {num a b c:Int}{k:Int × Int→Bool→Strat}{o:Out}(ho:kCall K slot num a b c=o)(h:Alone slot (k (o.n,o.e) (o.e == 3)) o.K n s' K'):Alone slot ((callM num a b c).then false k) K (n+1) s' K':=by
 subst ho
 exact .call num a b c rfl h
theorem alone_with1 {num a b c:Int}{f:Nat}{x:Int}{r:List Int}{k:Int × List Int→Bool→Strat}{K1:Ker}{v:Int}(ho:kCall K slot num a x c=⟨K1,v,0⟩)(h:Alone slot (k (0,popL (x::r)) false) K1 n s' K'):Alone slot ((withM1 num (f+1) a b c (x::r)).then false k) K (n+1) s' K':=by
 unfold withM1
 rw [M.bind_then]
 refine alone_call ho ?_
 exact h
theorem alone_with2 {num a b c:Int}{f:Nat}{x:Int}{r:List Int}{k:Int × List Int→Bool→Strat}{K1:Ker}{v:Int}(ho:kCall K slot num a b x=⟨K1,v,0⟩)(h:Alone slot (k (0,popL (x::r)) false) K1 n s' K'):Alone slot ((withM2 num (f+1) a b c (x::r)).then false k) K (n+1) s' K':=by
 unfold withM2
 rw [M.bind_then]
 refine alone_call ho ?_
 exact h
theorem Alone.trans {s s1 s2:Strat}{K K1 K2:Ker}{m:Nat}(h:Alone slot s K n s1 K1)(h':Alone slot s1 K1 m s2 K2):Alone slot s K (n+m) s2 K2:=by
 induction h with
 | nil s K=>simpa using h'
 | call num a b c hc hn ih =>
  rw [Nat.add_right_comm]
  exact .call num a b c hc (ih h')
end
def Comes (p:Nat)(kd A B:Int)(K:Ker)(n:Nat)(v e:Int)(K':Ker):Prop :=
 Alone p ((performM K p kd A B).then false (fun z _=>fun _=>.done z.1 z.2)) K n (fun _=>.done v e) K'
end Go.Proofs.YtcgabodkegcpgaaDoor
