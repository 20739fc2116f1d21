/- Main writes what is its own; what has ended is noted. -/
import Derived.Test.YtcgabodkegcpgaaDoorMch
set_option linter.unusedVariables false
set_option linter.unusedSimpArgs false
set_option maxHeartbeats 20000000
set_option maxRecDepth 100000
namespace Go.Proofs.YtcgabodkegcpgaaDoor
open Go.Conc Go.RowKit
open Br (OpD KO SO SP sfO Lk Fit Must DL Liv Clear X)
structure Mw (kb:Kb) (l:List OpD) (L:Nat→Option Lv) (w:World) (k:Nat):Prop where
 mn:Mn kb L w k
 bk:k≠kb.bk
 tab:k≠0
 rc:∀ o∈l,o.bo≠k
section
variable {kb:Kb} {l:List OpD} {K:Ker} {L:Nat→Option Lv} {r:Nat} {Inb:Nat→Option Seat} {nG:Nat} {w w':World} {v:Lv} {Final:Machine→Trace→Prop}
theorem Co.wrote (co:Co kb l K L r Inb nG w)(hsz:w.heap.size≤w'.heap.size)(hcl:Clear w')(hk:∀ k,k<w.heap.size→¬ Mw kb l L w k→w'.heap[k]?=w.heap[k]?):Co kb l K L r Inb nG w':=by
 have R:=co.env.rep
 have hb:w'.heap[kb.bk]?=w.heap[kb.bk]?:=hk _ R.lk (fun h=>h.bk rfl)
 have hf:w'.heap[kb.bf]?=w.heap[kb.bf]?:=hk _ R.lf (fun h=>h.mn.nf rfl)
 have hs:w'.heap[kb.bs]?=w.heap[kb.bs]?:=hk _ R.ls (fun h=>h.mn.ns rfl)
 have hd:w'.heap[kb.bd]?=w.heap[kb.bd]?:=hk _ R.ld (fun h=>h.mn.nd rfl)
 have h0:w'.heap[0]?=w.heap[0]?:=hk _ co.env.tab.lt (fun h=>h.tab rfl)
 have ho:∀ o∈l,w'.heap[o.bo]?=w.heap[o.bo]?:=fun o ho=>hk _ (Br.KO.lt co.env.ko ho) (fun h=>h.rc o ho rfl)
 have E:EnvK kb l K w':=⟨R.same hsz (fun k _ h=>by rcases h with rfl|rfl|rfl|rfl<;>assumption),co.env.tab.same h0,co.env.inv,⟨fun i hi=>by
  obtain ⟨o,ho',rfl⟩:=Br.sfO_ne hi
  obtain ⟨c,t,h⟩:=co.env.fit.soft _ hi
  exact ⟨c,t,by rw [ho o ho'];exact h⟩,hcl⟩,fun o ho'=>by
  obtain ⟨c,t,h1,h2⟩:=co.env.ko o ho'
  exact ⟨c,t,by rw [ho o ho'];exact h1,h2⟩,co.env.ap⟩
 refine ⟨E,co.top,co.gid,co.onk,fun g v hv=>?_,co.wait,co.seat,co.none,fun s c h1 h2=>Nat.lt_of_lt_of_le (co.main0 s c h1 h2) hsz,fun g v hv c hc=>?_,co.chne,co.pvch,co.apart⟩
 ·obtain ⟨f,n,A⟩:=co.at_ g v hv
  exact ⟨f,n,A.other ((co.onk g v hv).env E) fun i hi=>hk i (A.lt hi) (fun h=>(h.mn.own g v hv).1 hi)⟩
 ·obtain ⟨⟨cap,k,h1⟩,h2⟩:=co.chan g v hv c hc
  exact ⟨⟨cap,k,by rw [hk c (co.ch_lt hv hc) (fun h=>(h.mn.own g v hv).2 hc)];exact h1⟩,h2⟩
theorem Mn.grow {k:Nat}(h:Mn kb L w k)(hsz:w.heap.size≤w'.heap.size):Mn kb L w' k:=⟨Nat.lt_of_lt_of_le h.lt hsz,h.nf,h.ns,h.nd,h.own⟩
theorem Mw.grow {k:Nat}(h:Mw kb l L w k)(hsz:w.heap.size≤w'.heap.size):Mw kb l L w' k:=⟨h.mn.grow hsz,h.bk,h.tab,h.rc⟩
theorem Co.new (co:Co kb l K L r Inb nG w){k:Nat}(h1:w.heap.size≤k)(h2:k<w'.heap.size):Mw kb l L w' k:=by
 have R:=co.env.rep
 have lk:kb.bk<w.heap.size:=R.lk
 have lf:kb.bf<w.heap.size:=R.lf
 have ls:kb.bs<w.heap.size:=R.ls
 have ld:kb.bd<w.heap.size:=R.ld
 have l0:0<w.heap.size:=co.env.tab.lt
 exact ⟨⟨h2,by omega,by omega,by omega,fun g v hv=>⟨fun hi=>by have:=co.pv_lt hv hi;omega,fun hc=>by have:=co.ch_lt hv hc;omega⟩⟩,by omega,by omega,fun o ho e=>by have:=Br.KO.lt co.env.ko ho;omega⟩
theorem lk_same {sft:Nat→Nat}{v w:World}(h:Lk sft v w){b:Nat}(hz:sft b=0)(hs:(∃ c t f,w.heap[b]?=some (.cells c t f))∨∃ c t f,v.heap[b]?=some (.cells c t f)):v.heap[b]?=w.heap[b]?:=by
 rcases hs with ⟨c,t,f,e⟩|⟨c,t,f,e⟩
 ·rw [h.heap,hz,e];rfl
 ·have e':=h.heap b
  rw [e,hz] at e'
  cases ew:w.heap[b]? with
  | none=>rw [ew] at e';cases e'
  | some o =>
   rw [ew,Option.map_some] at e'
   rw [e,e',Br.fz_sight (Br.fz_sighted (Option.some.inj e').symm trivial)]
theorem Mw.sf {k:Nat}(h:Mw kb l L w k):sfO l k=0:=Br.sfO_zero h.rc
end
theorem owns_same {w w':World}{base e size n:Nat}{v:Value}{xs:List Value}(h:w.ownsRow base e size v n xs)(hg:∀ g,v.ownBlock=some g→w'.heap[g]?=w.heap[g]?):w'.ownsRow base e size v n xs:=by
 obtain ⟨h1,h2⟩:=h
 refine ⟨h1,h2.imp id ?_⟩
 rintro ⟨g,cap,cur,rfl,a1,a2,a3⟩
 exact ⟨g,cap,cur,rfl,a1,by rw [hg g rfl];exact a2,a3⟩
theorem owns_lt {w:World}{base e size n:Nat}{v:Value}{xs:List Value}(h:w.ownsRow base e size v n xs){g:Nat}(hg:v.ownBlock=some g):base≤g∧g<w.heap.size:=by
 obtain ⟨h1,⟨rfl,_⟩|⟨g',cap,cur,rfl,a1,a2,a3⟩⟩:=h
 ·cases hg
 ·obtain rfl:g'=g:=Option.some.inj hg
  exact ⟨a1,(Array.getElem?_eq_some_iff.1 a2).1⟩
theorem owns_cells {w:World}{base e size n:Nat}{v:Value}{xs:List Value}(h:w.ownsRow base e size v n xs){g:Nat}(hg:v.ownBlock=some g):∃ c t f,w.heap[g]?=some (.cells c t f):=by
 obtain ⟨h1,⟨rfl,_⟩|⟨g',cap,cur,rfl,a1,a2,a3⟩⟩:=h
 ·cases hg
 ·obtain rfl:g'=g:=Option.some.inj hg
  exact ⟨_,_,_,a2⟩
theorem RowU.cells {w:World}{b n:Nat}{f:Nat→Value}(h:RowU w b n f):∃ c t f,w.heap[b]?=some (.cells c t f):=by
 obtain ⟨c,t,e,_⟩:=h
 exact ⟨c,t,_,e⟩
theorem cap_bound {n:Nat}(h:n≤4398046511104):Builtin.nextslicecap (n+1) n*40≤281474976710656:=by
 have:Builtin.nextslicecap (n+1) n≤7036874417766:=by
  unfold Builtin.nextslicecap
  split
  ·omega
  ·split
   ·omega
   ·rw [growBy_four]
    repeat' split
    all_goals omega
 omega
theorem done_info:∃ i z,Tryd.prog.info? 70=some i∧i.zero=some z∧i.size=5∧i.bytes=40∧z.cells.size=5:=by
 have h:(Tryd.prog.info? 70).map (fun i=>(i.size,i.bytes,i.zero.map (·.cells.size)))=some (5,40,some 5):=by kernel_rfl
 obtain ⟨i,hi,hb⟩:=Option.map_eq_some_iff.1 h
 obtain ⟨h1,h2,h3⟩:i.size=5∧i.bytes=40∧i.zero.map (·.cells.size)=some 5:=by
  injection hb with a b
  injection b with b c
  exact ⟨a,b,c⟩
 obtain ⟨z,hz,hzs⟩:=Option.map_eq_some_iff.1 h3
 exact ⟨i,z,hi,hz,h1,h2,hzs⟩
theorem note_wp {v:World}{bl bn n p bo B0 N:Nat}{kd A B er va:Int}{Vp:Value}{V:Nat→Value}{Xp:List Value}{tb:Array Value}(hsz:tb.size=47)(b0:tb[0]?=some (.pointer (some ⟨bl,0,none⟩)))(b1:tb[1]?=some (.int .i64 p))(b6:tb[6]?=some (.pointer (some ⟨bo,0,none⟩)))(hp:p<n)
  (S:PkS v bl bn n p bo kd A B er va Vp)(hr:RowU v bn n V)(hown:v.ownsRow B0 70 5 Vp N Xp)(hN:N≤4398046511104)(hB:bn<B0∧bl<B0)(hB0:B0≤v.heap.size)(hbo:Vp.ownBlock≠some bo) :
  (Code.region 9 pkOps true).wp Tryd.prog (fun e a' v'=>e=.normal∧∃ g cap n1,a'=⟨Br.fill pkOps (pkV bl bn n p bo n1 g (N+1) cap Vp (ent kd A B er va)) tb,[]⟩∧v.heap.size≤v'.heap.size∧(∀ k,k<v.heap.size→k≠bn→Vp.ownBlock≠some k→v'.heap[k]?=v.heap[k]?)∧RowU v' bn n (fun q=>if q=p then .slice (some ⟨g,0,none⟩) (N+1) cap else V q)∧v'.ownsRow B0 70 5 (.slice (some ⟨g,0,none⟩) (N+1) cap) (N+1) (Xp ++ ent kd A B er va)∧(Vp.ownBlock=some g∨v.heap.size≤g)) ⟨tb,[]⟩ v:=by
 obtain ⟨i,z,hi,hz,h5,h40,hzs⟩:=done_info
 have lbl:bl<v.heap.size:=cell_lt S.l
 have lbn:bn<v.heap.size:=cell_lt S.d
 have lbo:bo<v.heap.size:=cell_lt (S.r 0 _ rfl)
 generalize hw0:({ v with drawn:=v.drawn+1 }:World)=w0
 have h0:w0.heap=v.heap:=by rw [← hw0]
 generalize hw1:w0.alloc (.cells (ent kd A B er va).toArray 70 (0,0))=w1
 have z0:w0.heap.size=v.heap.size:=by rw [h0]
 have o1:∀ k,k<v.heap.size→w1.heap[k]?=v.heap[k]?:=fun k hk=>by rw [← hw1,Below.heap_alloc w0 _ k (by omega),h0]
 have z1:w1.heap.size=v.heap.size+1:=by rw [← hw1];simp [z0]
 have n1:w1.heap[v.heap.size]?=some (.cells (ent kd A B er va).toArray 70 (0,0)):=by rw [← hw1,← z0];exact heap_alloc_new w0 _
 have own1:w1.ownsRow B0 70 5 Vp N Xp:=owns_same hown (fun g hg=>o1 g (owns_lt hown hg).2)
 obtain ⟨g,cap,w2,hrun,own2,gr2,hg2⟩:=App.run_append_one (P:=Tryd.prog) w1 B0 65 65 70 i z 5 40 Tryd.underlying65 hi hz h5 h40 hzs Vp N Xp own1 ⟨v.heap.size,0,none⟩ 1 (ent kd A B er va) rfl (fun j u hu=>by
   rw [Addr.add_mid,Nat.zero_add]
   simp only [World.cell?,n1]
   simpa using hu) (fun u hu=>by simp [ent] at hu;rcases hu with rfl|rfl|rfl|rfl|rfl<;>rfl) (by simp only [maxLen];omega) (cap_bound hN) (by omega)
 have o2:∀ k,k<v.heap.size→Vp.ownBlock≠some k→w2.heap[k]?=v.heap[k]?:=fun k hk h=>by rw [gr2.block k (by omega) (fun e=>h e.symm),o1 k hk]
 have z2:v.heap.size≤w2.heap.size:=by have:=gr2.size;omega
 have ge:B0≤g:=(owns_lt own2 rfl).1
 have vbl:Vp.ownBlock≠some bl:=fun e=>by have:=(owns_lt hown e).1;omega
 have vbn:Vp.ownBlock≠some bn:=fun e=>by have:=(owns_lt hown e).1;omega
 have keepS:∀ w':World,w'.heap[bl]?=v.heap[bl]?→w'.heap[bn]?=v.heap[bn]?→w'.heap[bo]?=v.heap[bo]?→PkS w' bl bn n p bo kd A B er va Vp:=fun w' e1 e2 e3 =>
  ⟨(World.cell?_of_block (w:=v) e1).trans S.l,(World.cell?_of_block (w:=v) e2).trans S.d,fun j x hx=>(World.cell?_of_block (w:=v) e3).trans (S.r j x hx)⟩
 have s0:=keepS w0 (by rw [h0]) (by rw [h0]) (by rw [h0])
 have s1:=keepS w1 (o1 _ lbl) (o1 _ lbn) (o1 _ lbo)
 have s2:=keepS w2 (o2 _ lbl vbl) (o2 _ lbn vbn) (o2 _ lbo hbo)
 have row2:RowU w2 bn n V:=hr.of (o2 _ lbn vbn)
 refine wp_region_draw fun t=>?_
 rw [hw0]
 refine pk_orders (n1:=v.heap.size) (g:=g) (m:=N+1) (cap:=cap) hsz b0 b1 b6 hp s0 s1 s2 (w3:=w2.setCell ⟨bn,p,none⟩ (.slice (some ⟨g,0,none⟩) (N+1) cap)) (fun o a hop he=>?_) (fun o a hop hty e39 e44=>?_) (fun o a hop e46 e45=>?_) ?_ _ _ (⟨tb,[]⟩,w0) _ (Br.ord_start (by kernel_rfl) pkOps t) ⟨Br.Agr.start _ _ _,?_,fun h=>?_,fun h=>?_,fun h=>?_⟩
 ·rw [← hw1,← z0]
  unfold ent at *
  unfold execOp
  simp only [hop,List.map_toArray,List.map_cons,List.map_nil,he]
  go_simp
 ·unfold execOp
  simp only [hop,resolve,invoke,builtin,Sem.run_bind,Sem.run_pure,Result.andThen_ok,List.map_toArray,List.map_cons,List.map_nil,e39,e44,hty,hrun]
 ·have y1:=row2.cell hp
  have y2:=row2.frozen p
  unfold execOp
  simp only [hop,e46,e45]
  go_simp
 ·refine ⟨rfl,g,cap,v.heap.size,rfl,by simp [World.setCell];exact z2,fun k hk h1 h2=>?_,row2.set hp _,?_,hg2.imp id (fun e=>by omega)⟩
  ·rw [Br.heap_setCell,if_neg (fun e=>h1 e.symm)];exact o2 k hk h2
  ·refine owns_same own2 (fun g' hg'=>?_)
   obtain rfl:g=g':=Option.some.inj hg'
   rw [Br.heap_setCell,if_neg (fun e=>by have e':bn=g:=e;omega)]
 ·show w0=WlP _ _ _ _ _
  unfold WlP
  rw [rep_off,rep_off,rep_off];rfl
 ·rw [rep_off] at h;cases h
 ·rw [rep_off] at h;cases h
 ·rw [rep_off] at h;cases h
end Go.Proofs.YtcgabodkegcpgaaDoor
namespace Go.Proofs.YtcgabodkegcpgaaDoor
open Go.Conc Go.RowKit
open Br (X OpD KO SO SP sfO Lk Fit Must DL Liv Clear)
structure LibM0 (kb:Kb) (l:List OpD) (L:Nat→Option Lv) (w:World) (b:Lb) (n B0:Nat) (U:Nat→Option OpD) (V:Nat→Value) (N:Nat→Nat) (Xs:Nat→List Value):Prop where
 is:LibIs w b kb.bk n B0 U V N Xs
 mbl:Mw kb l L w b.bl
 mbu:Mw kb l L w b.bu
 mbn:Mw kb l L w b.bn
 mls:∀ p,p<n→∀ g,(V p).ownBlock=some g→Mw kb l L w g
 b0:B0≤b.bl+1
structure LibM (kb:Kb) (l:List OpD) (L:Nat→Option Lv) (w:World) (b:Lb) (n B0:Nat) (U:Nat→Option OpD) (V:Nat→Value) (N:Nat→Nat) (Xs:Nat→List Value):Prop where
 m:LibM0 kb l L w b n B0 U V N Xs
 live:∀ p,p<n→∀ o,U p=some o→∃ v,L o.gid=some v∧v.C.o=o∧v.C.slot=p
theorem LibIs.same {w w':World}{b:Lb}{bk n B0:Nat}{U:Nat→Option OpD}{V:Nat→Value}{N:Nat→Nat}{Xs:Nat→List Value}(h:LibIs w b bk n B0 U V N Xs)(h1:w'.heap[b.bl]?=w.heap[b.bl]?)(h2:w'.heap[b.bu]?=w.heap[b.bu]?)(h3:w'.heap[b.bn]?=w.heap[b.bn]?)(h4:∀ p,p<n→∀ g,(V p).ownBlock=some g→w'.heap[g]?=w.heap[g]?):LibIs w' b bk n B0 U V N Xs :=
 ⟨(World.cell?_of_block (w:=w) h1).trans h.k0,(World.cell?_of_block (w:=w) h1).trans h.k1,(World.cell?_of_block (w:=w) h1).trans h.k2,h.u.of h2,h.d.of h3,fun p hp=>owns_same (h.own p hp) (h4 p hp),h.far,h.ne,h.small⟩
section
variable {kb:Kb} {l:List OpD} {K:Ker} {L:Nat→Option Lv} {r:Nat} {Inb:Nat→Option Seat} {nG:Nat} {w w':World} {v:Lv} {Final:Machine→Trace→Prop} {b:Lb} {n B0:Nat} {U:Nat→Option OpD} {V:Nat→Value} {N:Nat→Nat} {Xs:Nat→List Value}
theorem LibM0.grown (h:LibM0 kb l L w b n B0 U V N Xs)(g:Grown w w'):LibM0 kb l L w' b n B0 U V N Xs :=
 ⟨h.is.same (g.old _ h.mbl.mn.lt) (g.old _ h.mbu.mn.lt) (g.old _ h.mbn.mn.lt) (fun p hp x hx=>g.old _ (h.mls p hp x hx).mn.lt),h.mbl.grow g.size,h.mbu.grow g.size,h.mbn.grow g.size,fun p hp x hx=>(h.mls p hp x hx).grow g.size,h.b0⟩
theorem LibM.grown (h:LibM kb l L w b n B0 U V N Xs)(g:Grown w w'):LibM kb l L w' b n B0 U V N Xs:=⟨h.m.grown g,h.live⟩
theorem Mw.kp {L':Nat→Option Lv}{k:Nat}(h:Mw kb l L w k)(hk:Kp kb L w L' w'):Mw kb l L' w' k:=⟨(hk k h.mn).1,h.bk,h.tab,h.rc⟩
theorem LibM0.turn {L':Nat→Option Lv}(h:LibM0 kb l L w b n B0 U V N Xs)(hk:Kp kb L w L' w'):LibM0 kb l L' w' b n B0 U V N Xs :=
 ⟨h.is.same (hk _ h.mbl.mn).2 (hk _ h.mbu.mn).2 (hk _ h.mbn.mn).2 (fun p hp x hx=>(hk _ (h.mls p hp x hx).mn).2),h.mbl.kp hk,h.mbu.kp hk,h.mbn.kp hk,fun p hp x hx=>(h.mls p hp x hx).kp hk,h.b0⟩
theorem must_isProcess (co:Co kb l K L r Inb nG w)(lm:LibM0 kb l L w b n B0 U V N Xs)(s:Int)(fr:Frame)(cs:List Frame)(d:Nat) :
  Must Tryd.prog true (DL true (sfO l)) (fun g w'=>g=G (fr.finish (.bool (decide (0≤s) && decide (s<n)))) cs∧Grown w w') (G (Frame.enter Tryd.prog 40 #[.pointer (some ⟨b.bl,0,none⟩),.int .i64 s] .normal) (fr::cs)) (w.at d):=by
 refine (Br.must_calls Br.rules (sft:=sfO l) (w0:=w.at d) (by kernel_rfl) ⟨co.env.fit.soft,co.env.fit.clear⟩ true (Q:=fun x v'=>x=.bool (decide (0≤s) && decide (s<n))∧Lk (sfO l) v' (w.at d))
  (fun v hv=>(isProcess_any v b.bl b.bu n s (by rw [hv.cell];exact lm.is.k1)).mono fun e v' he=>by
   obtain ⟨rfl,rfl⟩:=he
   exact ⟨rfl,hv⟩) fr cs).keep.mono (fun _ _ _ h=>h) ?_
 rintro g w' ⟨⟨x,v',rfl,hl',rfl,hl⟩,hkp⟩
 refine ⟨rfl,?_,fun k hk=>same_block (w:=w.at d) hkp hl hl' rfl,hl'.fit.clear⟩
 have e1:v'.heap.size=w.heap.size:=hl.size
 have e2:v'.heap.size=w'.heap.size:=hl'.size
 omega
noncomputable def pickBody:Code:=(Tryd.f18.body).getD .skip
theorem pick_enter (k0 x:Value):Frame.enter Tryd.prog 18 #[k0,x] .normal=(base 18).at ⟨#[k0,x,undef,undef,undef,undef,undef,undef,undef,undef,undef,undef,undef,undef,undef,undef,undef,undef,undef,undef,undef,undef,undef,undef,undef,undef,undef,undef,undef,undef,undef,undef,undef,undef,undef,undef,undef,undef,undef,undef,undef,undef,undef,undef,undef,undef,undef],[]⟩ [.code pickBody]:=by
 rw [enter_at (c:=pickBody) _ Tryd.func18 rfl]
 refine congrArg (fun t=>(base 18).at ⟨t,[]⟩ [.code pickBody]) ?_
 kernel_rfl
noncomputable def pickTail:Code :=
 match Tryd.f18.body with
 | some (.seq _ (.seq _ (.seq _ (.seq _ (.seq _ c)))))=>c
 | _=>.skip
def setU (U:Nat→Option OpD)(p:Nat):Nat→Option OpD:=fun q=>if q=p then none else U q
def setV {α:Type}(V:Nat→α)(p:Nat)(x:α):Nat→α:=fun q=>if q=p then x else V q
theorem pick_over (co:Co kb l K L r Inb nG w)(lm:LibM0 kb l L w b n B0 U V N Xs){p:Nat}(hp:p<n)(hN:N p≤4398046511104){C:Ctx}(ho:C.o∈l){er va:Int}(hrow:∃ t free un go,w.heap[C.o.bo]?=some (.cells (oRow C er va free un go) t (0,0)))(hlive:∀ q,q<n→q≠p→∀ o,U q=some o→∃ v,L o.gid=some v∧v.C.o=o∧v.C.slot=q)(fr:Frame)(cs:List Frame)
  (hx:∀ w' g cap,((V p).ownBlock=some g∨w.heap.size≤g)→Co kb l K L r Inb nG w'→w.heap.size≤w'.heap.size→(∀ k,k<w.heap.size→k≠b.bu→k≠b.bn→(V p).ownBlock≠some k→w'.heap[k]?=w.heap[k]?)→LibM kb l L w' b n B0 (setU U p) (setV V p (.slice (some ⟨g,0,none⟩) (N p+1) cap)) (setV N p (N p+1)) (setV Xs p (Xs p ++ ent C.kd C.A C.B er va))→X Tryd.prog Final l Inb nG 0 (G (fr.finish (.tuple #[.bool true,.int .i64 0])) cs) w')(d0:Nat) :
  Must Tryd.prog true (DL true (sfO l)) (X Tryd.prog Final l Inb nG 0) (G ((base 18).at ⟨#[.pointer (some ⟨b.bl,0,none⟩),.int .i64 p,undef,undef,.bool false,.int .i64 0,pO C.o,.pointer (some ⟨b.bl,0,none⟩),.int .i64 p,.bool true,.bool false,.pointer (some ⟨b.bl,0,none⟩),.pointer (some ⟨b.bl,0,none⟩),.pointer (some ⟨b.bl,1,none⟩),.slice (some ⟨b.bu,0,none⟩) n n,.int .i64 p,.pointer (some ⟨b.bu,p,none⟩),pO C.o,pO C.o,.bool false,pO C.o,.bool false,undef,undef,undef,undef,undef,undef,undef,undef,undef,undef,undef,undef,undef,undef,undef,undef,undef,undef,undef,undef,undef,undef,undef,undef,undef],[]⟩ [.code pickTail]) (fr::cs)) (w.at d0):=by
 obtain ⟨t,f1,f2,f3,hrow⟩:=hrow
 have cu:=lm.is.u.cell hp
 have zu:=lm.is.u.frozen p
 have ck1:=lm.is.k1
 have hc:=co.env.fit.clear
 have i0:(0:Int)≤(p:Int):=by omega
 have i1:(p:Int)<(n:Int):=by omega
 have rest:∀ d,Must Tryd.prog true (DL true (sfO l)) (X Tryd.prog Final l Inb nG 0) (G ((base 18).at ⟨#[.pointer (some ⟨b.bl,0,none⟩),.int .i64 p,undef,undef,.bool false,.int .i64 0,pO C.o,.pointer (some ⟨b.bl,0,none⟩),.int .i64 p,.bool true,.bool false,.pointer (some ⟨b.bl,0,none⟩),.pointer (some ⟨b.bl,0,none⟩),.pointer (some ⟨b.bl,1,none⟩),.slice (some ⟨b.bu,0,none⟩) n n,.int .i64 p,.pointer (some ⟨b.bu,p,none⟩),pO C.o,pO C.o,.bool false,pO C.o,.bool false,.pointer (some ⟨b.bl,0,none⟩),.pointer (some ⟨b.bl,0,none⟩),.pointer (some ⟨b.bl,1,none⟩),.slice (some ⟨b.bu,0,none⟩) n n,.int .i64 p,.pointer (some ⟨b.bu,p,none⟩),undef,undef,undef,undef,undef,undef,undef,undef,undef,undef,undef,undef,undef,undef,undef,undef,undef,undef,undef],[]⟩ [.code (.region 9 pkOps true),.code (match Tryd.f18.body with|some (.seq _ (.seq _ (.seq _ (.seq _ (.seq _ (.seq _ (.seq _ c)))))))=>c|_=>.skip)]) (fr::cs)) ((w.setCell ⟨b.bu,p,none⟩ (.pointer none)).at d):=by
  intro d
  have e1:∀ k,k≠b.bu→(w.setCell ⟨b.bu,p,none⟩ (.pointer none)).heap[k]?=w.heap[k]?:=fun k hk=>by rw [Br.heap_setCell,if_neg (fun e=>hk e.symm)]
  have z1:(w.setCell ⟨b.bu,p,none⟩ (.pointer none)).heap.size=w.heap.size:=by simp [World.setCell]
  have u1:=lm.is.u.set hp (.pointer none)
  have cl1:Clear (w.setCell ⟨b.bu,p,none⟩ (.pointer none)):=(Br.lk_setCell hc.lk (Nat.zero_le _) _).1.sight
  generalize w.setCell ⟨b.bu,p,none⟩ (.pointer none)=w1 at *
  have co1:Co kb l K L r Inb nG w1:=co.wrote (by omega) cl1 (fun k hk h=>e1 k (fun e=>h (e▸lm.mbu)))
  obtain ⟨ne1,ne2,ne3,lb1,lb2,lb3⟩:=lm.is.ne
  have lsne:∀ q,q<n→∀ x,(V q).ownBlock=some x→x≠b.bu∧x≠b.bn∧x≠b.bl:=fun q hq x hx=>by have:=(owns_lt (lm.is.own q hq) hx).1;exact ⟨by omega,by omega,by omega⟩
  have S1:PkS w1 b.bl b.bn n p C.o.bo C.kd C.A C.B er va (V p):=⟨(World.cell?_of_block (w:=w) (e1 _ ne1)).trans lm.is.k2,(World.cell?_of_block (w:=w) (e1 _ (Ne.symm ne3))).trans (lm.is.d.cell hp),fun j x hx=>by
   rw [World.cell?_of_block (w:=w) (e1 _ (lm.mbu.rc _ ho))]
   simp only [World.cell?,hrow]
   have hcs:j=0∨j=1∨j=2∨j=3∨j=4∨5≤j:=by omega
   rcases hcs with rfl|rfl|rfl|rfl|rfl|h
   ·simpa [ent,oRow] using hx
   ·simpa [ent,oRow] using hx
   ·simpa [ent,oRow] using hx
   ·simpa [ent,oRow] using hx
   ·simpa [ent,oRow] using hx
   ·rw [List.getElem?_eq_none (by simp [ent];omega)] at hx;cases hx⟩
  have r1:RowU w1 b.bn n V:=lm.is.d.of (e1 _ (Ne.symm ne3))
  have own1:w1.ownsRow B0 70 5 (V p) (N p) (Xs p):=owns_same (lm.is.own p hp) (fun x hx=>e1 x (lsne p hp x hx).1)
  have nbo:(V p).ownBlock≠some C.o.bo:=fun e=>(lm.mls p hp _ e).rc _ ho rfl
  refine (Br.must_wp Br.rules (sft:=sfO l) (b:=base 18) (w0:=w1.at d) (c:=.region 9 pkOps true) (by kernel_rfl) rfl rfl ⟨_,Tryd.func18⟩ ⟨co1.env.fit.soft,co1.env.fit.clear⟩ true
   (Q:=fun e a' v'=>e=.normal∧∃ v,Lk (sfO l) v (w1.at d)∧∃ g cap n1,a'=⟨Br.fill pkOps (pkV b.bl b.bn n p C.o.bo n1 g (N p+1) cap (V p) (ent C.kd C.A C.B er va)) #[.pointer (some ⟨b.bl,0,none⟩),.int .i64 p,undef,undef,.bool false,.int .i64 0,pO C.o,.pointer (some ⟨b.bl,0,none⟩),.int .i64 p,.bool true,.bool false,.pointer (some ⟨b.bl,0,none⟩),.pointer (some ⟨b.bl,0,none⟩),.pointer (some ⟨b.bl,1,none⟩),.slice (some ⟨b.bu,0,none⟩) n n,.int .i64 p,.pointer (some ⟨b.bu,p,none⟩),pO C.o,pO C.o,.bool false,pO C.o,.bool false,.pointer (some ⟨b.bl,0,none⟩),.pointer (some ⟨b.bl,0,none⟩),.pointer (some ⟨b.bl,1,none⟩),.slice (some ⟨b.bu,0,none⟩) n n,.int .i64 p,.pointer (some ⟨b.bu,p,none⟩),undef,undef,undef,undef,undef,undef,undef,undef,undef,undef,undef,undef,undef,undef,undef,undef,undef,undef,undef],[]⟩∧v.heap.size≤v'.heap.size∧(∀ k,k<v.heap.size→k≠b.bn→(V p).ownBlock≠some k→v'.heap[k]?=v.heap[k]?)∧RowU v' b.bn n (fun q=>if q=p then .slice (some ⟨g,0,none⟩) (N p+1) cap else V q)∧v'.ownsRow B0 70 5 (.slice (some ⟨g,0,none⟩) (N p+1) cap) (N p+1) (Xs p ++ ent C.kd C.A C.B er va)∧((V p).ownBlock=some g∨v.heap.size≤g))
   (fun e a w h=>.inl h.1) (fun v hv=>Code.wp_mono (fun e a' v' h=>⟨h.1,v,hv,h.2⟩) (note_wp (V:=V) (N:=N p) rfl rfl rfl rfl hp ⟨by rw [hv.cell];exact S1.l,by rw [hv.cell];exact S1.d,fun j x hx=>by rw [hv.cell];exact S1.r j x hx⟩ (r1.of (lk_same hv lm.mbn.sf (.inl r1.cells))) (owns_same own1 (fun x hx=>lk_same hv (lm.mls p hp x hx).sf (.inl (owns_cells own1 hx)))) hN ⟨lb3,lb1⟩ (by rw [hv.size];show B0≤w1.heap.size;have:=lm.b0;have:=lm.mbl.mn.lt;omega) nbo)) _ _).keep.then ?_
  rintro gr w2 ⟨⟨e,a',v',⟨he,v,hv,g,cap,n1,rfl,hsz,hk,hrw,how,hg⟩,hl',hgr⟩,hkp⟩
  obtain rfl:gr=_:=by rcases hgr with ⟨_,h⟩|⟨h,_⟩;exact h;rw [he] at h;cases h
  have sv:v.heap.size=w1.heap.size:=hv.size
  have sv':v'.heap.size=w2.heap.size:=hl'.size
  have k2:∀ k,k<w.heap.size→k≠b.bu→k≠b.bn→(V p).ownBlock≠some k→w2.heap[k]?=w.heap[k]?:=fun k h0 h1 h2 h3=>by rw [same_block (w:=w1.at d) hkp hv hl' (hk k (by omega) h2 h3)];exact e1 k h1
  have sg:sfO l g=0:=by
   rcases hg with h|h
   ·exact (lm.mls p hp g h).sf
   ·exact Br.sfO_zero fun o ho'=>by have:=Br.KO.lt co.env.ko ho';omega
  have how2:w2.ownsRow B0 70 5 (.slice (some ⟨g,0,none⟩) (N p+1) cap) (N p+1) (Xs p ++ ent C.kd C.A C.B er va):=owns_same how (fun x hx=>by obtain rfl:g=x:=Option.some.inj hx;exact (lk_same hl' sg (.inr (owns_cells how rfl))).symm)
  have hrw2:RowU w2 b.bn n (fun q=>if q=p then .slice (some ⟨g,0,none⟩) (N p+1) cap else V q):=hrw.of (lk_same hl' lm.mbn.sf (.inr hrw.cells)).symm
  have hu2:RowU w2 b.bu n (fun q=>if q=p then .pointer none else ptrU (U q)):=u1.of (same_block (w:=w1.at d) hkp hv hl' (hk b.bu (by have:=lm.mbu.mn.lt;omega) ne3 (fun e=>(lsne p hp _ e).1 rfl)))
  have cl2:Clear w2:=hl'.fit.clear
  have hz2:w.heap.size≤w2.heap.size:=by omega
  have co2:Co kb l K L r Inb nG w2:=co.wrote hz2 cl2 (fun k h0 h=>k2 k h0 (fun e=>h (e▸lm.mbu)) (fun e=>h (e▸lm.mbn)) (fun e=>h (lm.mls p hp k e)))
  have bl2:w2.heap[b.bl]?=w.heap[b.bl]?:=k2 _ lm.mbl.mn.lt ne1 ne2 (fun e=>(lsne p hp _ e).2.2 rfl)
  have glt:g<w2.heap.size:=(owns_lt how2 rfl).2
  have lm2:LibM kb l L w2 b n B0 (setU U p) (setV V p (.slice (some ⟨g,0,none⟩) (N p+1) cap)) (setV N p (N p+1)) (setV Xs p (Xs p ++ ent C.kd C.A C.B er va)):=by
   refine ⟨⟨⟨(World.cell?_of_block (w:=w) bl2).trans lm.is.k0,(World.cell?_of_block (w:=w) bl2).trans lm.is.k1,(World.cell?_of_block (w:=w) bl2).trans lm.is.k2,?_,hrw2,fun q hq=>?_,fun q q' hq hq' hne=>?_,lm.is.ne,lm.is.small⟩,lm.mbl.grow hz2,lm.mbu.grow hz2,lm.mbn.grow hz2,fun q hq x hx=>?_,lm.b0⟩,fun q hq o' ho'=>?_⟩
   ·obtain ⟨c,t',a1,a2,a3⟩:=hu2
    refine ⟨c,t',a1,a2,fun q hq=>?_⟩
    rw [a3 q hq]
    by_cases e:q=p
    ·simp only [setU,e,if_true];rfl
    ·simp only [setU,e,if_false]
   ·by_cases e:q=p
    ·subst e;simp only [setV,if_true];exact how2
    ·simp only [setV,e,if_false]
     refine owns_same (lm.is.own q hq) (fun x hx=>k2 x (lm.mls q hq x hx).mn.lt (lsne q hq x hx).1 (lsne q hq x hx).2.1 (fun h=>?_))
     rcases lm.is.far q p hq hp e with h1|h1
     ·rw [hx] at h1;cases h1
     ·exact h1 (hx.trans h.symm)
   ·have key:∀ q,q<n→q≠p→(V q).ownBlock≠some g:=fun q hq e h=>by
     rcases hg with h1|h1
     ·rcases lm.is.far q p hq hp e with h2|h2
      ·rw [h] at h2;cases h2
      ·exact h2 (h.trans h1.symm)
     ·have:=(lm.mls q hq g h).mn.lt;omega
    by_cases e:q=p
    ·have e':q'≠p:=fun h=>hne (e.trans h.symm)
     simp only [setV,e,e',if_true,if_false]
     exact .inr (fun h=>key q' hq' e' h.symm)
    ·by_cases e':q'=p
     ·simp only [setV,e,e',if_true,if_false]
      exact .inr (key q hq e)
     ·simp only [setV,e,e',if_false]
      exact lm.is.far q q' hq hq' hne
   ·by_cases e:q=p
    ·simp only [setV,e,if_true] at hx
     obtain rfl:g=x:=Option.some.inj hx
     rcases hg with h|h
     ·exact (lm.mls p hp g h).grow hz2
     ·exact co.new (by omega) glt
    ·simp only [setV,e,if_false] at hx
     exact (lm.mls q hq x hx).grow hz2
   ·by_cases e:q=p
    ·simp only [setU,e,if_true] at ho';cases ho'
    ·simp only [setU,e,if_false] at ho'
     exact hlive q hq e o' ho'
  have hx:∀ d,X Tryd.prog Final l Inb nG 0 (G (fr.finish (.tuple #[.bool true,.int .i64 0])) cs) (w2.at d):=fun d=>hx (w2.at d) g cap (hg.imp id (fun h=>by omega)) (co2.at d) hz2 k2 (lm2.grown ⟨Nat.le_refl _,fun _ _=>rfl,cl2⟩)
  have hc:=cl2
  rw [show Br.fill pkOps (pkV b.bl b.bn n p C.o.bo n1 g (N p+1) cap (V p) (ent C.kd C.A C.B er va)) #[.pointer (some ⟨b.bl,0,none⟩),.int .i64 p,undef,undef,.bool false,.int .i64 0,pO C.o,.pointer (some ⟨b.bl,0,none⟩),.int .i64 p,.bool true,.bool false,.pointer (some ⟨b.bl,0,none⟩),.pointer (some ⟨b.bl,0,none⟩),.pointer (some ⟨b.bl,1,none⟩),.slice (some ⟨b.bu,0,none⟩) n n,.int .i64 p,.pointer (some ⟨b.bu,p,none⟩),pO C.o,pO C.o,.bool false,pO C.o,.bool false,.pointer (some ⟨b.bl,0,none⟩),.pointer (some ⟨b.bl,0,none⟩),.pointer (some ⟨b.bl,1,none⟩),.slice (some ⟨b.bu,0,none⟩) n n,.int .i64 p,.pointer (some ⟨b.bu,p,none⟩),undef,undef,undef,undef,undef,undef,undef,undef,undef,undef,undef,undef,undef,undef,undef,undef,undef,undef,undef]=#[.pointer (some ⟨b.bl,0,none⟩),.int .i64 p,undef,undef,.bool false,.int .i64 0,pO C.o,.pointer (some ⟨b.bl,0,none⟩),.int .i64 p,.bool true,.bool false,.pointer (some ⟨b.bl,0,none⟩),.pointer (some ⟨b.bl,0,none⟩),.pointer (some ⟨b.bl,1,none⟩),.slice (some ⟨b.bu,0,none⟩) n n,.int .i64 p,.pointer (some ⟨b.bu,p,none⟩),pO C.o,pO C.o,.bool false,pO C.o,.bool false,.pointer (some ⟨b.bl,0,none⟩),.pointer (some ⟨b.bl,0,none⟩),.pointer (some ⟨b.bl,1,none⟩),.slice (some ⟨b.bu,0,none⟩) n n,.int .i64 p,.pointer (some ⟨b.bu,p,none⟩),.pointer (some ⟨b.bl,0,none⟩),.pointer (some ⟨b.bl,0,none⟩),.pointer (some ⟨b.bl,2,none⟩),.slice (some ⟨b.bn,0,none⟩) n n,.int .i64 p,.pointer (some ⟨b.bl,0,none⟩),.pointer (some ⟨b.bl,0,none⟩),.pointer (some ⟨b.bl,2,none⟩),.slice (some ⟨b.bn,0,none⟩) n n,.int .i64 p,.pointer (some ⟨b.bn,p,none⟩),V p,pO C.o,pO C.o,.pointer (some ⟨C.o.bo,5,none⟩),.agg (ent C.kd C.A C.B er va).toArray,.slice (some ⟨n1,0,none⟩) 1 1,.slice (some ⟨g,0,none⟩) (N p+1) cap,.pointer (some ⟨b.bn,p,none⟩)] from by kernel_rfl]
  clear lm2 co2 k2 how2 hrw2 hu2 hk hrw how S1 r1 own1 u1 e1
  rw [show w2=w2.at w2.drawn from rfl]
  generalize w2.drawn=dz
  simp only [Tryd.f18]
  refine Br.liv_seq (fun d=>?_) _
  refine Br.liv_region (fun d=>?_) _
  simp only [Br.rz,Br.ix,Nat.reduceAdd]
  refine Br.mo rfl rfl hc (fun d K' hK=>?_) _
  go_simp
  refine hK _ _ ⟨rfl,?_⟩
  clear hK K'
  refine Br.mo rfl rfl hc (fun d K' hK=>?_) _
  go_simp
  refine hK _ _ ⟨rfl,?_⟩
  clear hK K'
  refine Br.liv_region_end (fun d=>?_) _
  refine Br.liv_ret (fun d=>?_) _
  exact Br.liv_leave (v:=.tuple #[.bool true,.int .i64 0]) rfl rfl Tryd.func18 (resultsC_tmp2 (t:=4) (u:=5) rfl _) (w:=w2) (fun d=>.stop (hx d)) _
 unfold pickTail
 unfold pkOps at rest
 simp only [Tryd.f18,pO] at *
 refine Br.liv_seq (fun d=>?_) _
 refine Br.liv_region (fun d=>?_) _
 simp only [Br.rz,Br.ix,Nat.reduceAdd]
 refine Br.mo rfl rfl hc (fun d K' hK=>?_) _
 go_simp
 refine hK _ _ ⟨rfl,?_⟩
 clear hK K'
 refine Br.mo rfl rfl hc (fun d K' hK=>?_) _
 go_simp
 refine hK _ _ ⟨rfl,?_⟩
 clear hK K'
 refine Br.mo rfl rfl hc (fun d K' hK=>?_) _
 go_simp
 refine hK _ _ ⟨rfl,?_⟩
 clear hK K'
 refine Br.mo rfl rfl hc (fun d K' hK=>?_) _
 have e1:(w.at d).cell? ⟨b.bl,1,none⟩=some (.slice (some ⟨b.bu,0,none⟩) n n):=ck1
 go_simp
 refine hK _ _ ⟨rfl,?_⟩
 clear hK K'
 refine Br.mo rfl rfl hc (fun d K' hK=>?_) _
 go_simp
 refine hK _ _ ⟨rfl,?_⟩
 clear hK K'
 refine Br.mo rfl rfl hc (fun d K' hK=>?_) _
 go_simp
 refine hK _ _ ⟨rfl,?_⟩
 clear hK K'
 refine Br.must_operW rfl rfl (by decide) (fun d K' hK=>?_) _
 have ej:(w.at d).cell? ⟨b.bu,p,none⟩=some (ptrU (U p)):=cu
 have ez:(w.at d).frozen? ⟨b.bu,p,none⟩=false:=zu
 go_simp
 refine hK _ _ ⟨Br.dl_store (by rw [lm.mbu.sf];exact Nat.zero_le _) (World.block_lt_of_cell? _ _ ej) (fun e he=>?_),?_⟩
 ·have hm:=mem_listed he
  simp only [go_sem] at hm
  simp [go_sem] at hm
  try rw [events_store _ _ _ _ _ _ rfl] at hm
  first|rw [ej] at hm|rw [cu] at hm
  first|rw [ez] at hm|rw [zu] at hm
  simp only [Bool.false_eq_true,if_false,List.push_toArray,List.nil_append,List.mem_toArray,List.mem_cons,List.not_mem_nil,or_false] at hm
  exact hm
 clear hK K' ej ez
 rw [show (w.at d).setCell ⟨b.bu,p,none⟩ (.pointer none)=(w.setCell ⟨b.bu,p,none⟩ (.pointer none)).at d from rfl]
 have hc:Clear (w.setCell ⟨b.bu,p,none⟩ (.pointer none)):=(Br.lk_setCell hc.lk (Nat.zero_le _) _).1.sight
 refine Br.liv_region_end (fun d=>?_) _
 refine Br.liv_seq (fun d=>?_) _
 exact rest _
end
end Go.Proofs.YtcgabodkegcpgaaDoor
