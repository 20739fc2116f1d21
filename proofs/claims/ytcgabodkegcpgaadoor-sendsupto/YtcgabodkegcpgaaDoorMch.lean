/- begin, whole. -/
import Derived.Test.YtcgabodkegcpgaaDoorMcf
import Derived.Deep.AppendLies
import Derived.Test.YtcgabodkegcpgaaDoorOpr
set_option linter.unusedVariables false
set_option linter.unusedSimpArgs false
set_option maxHeartbeats 20000000
set_option maxRecDepth 100000
namespace Go.Proofs.YtcgabodkegcpgaaDoor
open Go.Conc Go.RowKit
open Br (X XP OpD KO SO SP sfO Lk Fit Must DL Liv Clear)
noncomputable def begR0:Code :=
 match Tryd.f41.body with
 | some (.seq c _)=>c
 | _=>.skip
noncomputable def begRest:Code :=
 match Tryd.f41.body with
 | some (.seq _ (.seq _ c))=>c
 | _=>.skip
noncomputable def beginBody:Code:=(Tryd.f41.body).getD .skip
theorem begin_enter (k0 x y:Value):Frame.enter Tryd.prog 41 #[k0,x,y] .normal=(base 41).at ⟨#[k0,x,y,undef,undef,undef,undef,undef,undef,undef,undef,undef,undef,undef,undef,undef,undef,undef,undef],[]⟩ [.code beginBody]:=by
 rw [enter_at (c:=beginBody) _ Tryd.func41 rfl]
 refine congrArg (fun t=>(base 41).at ⟨t,[]⟩ [.code beginBody]) ?_
 kernel_rfl
theorem beg_body:beginBody=.seq begR0 (.seq (.region 1 begOps true) begRest):=by
 unfold beginBody begR0 begOps begRest
 simp only [Tryd.f41,Option.getD_some]
section
variable {kb:Kb} {l:List OpD} {K:Ker} {L:Nat→Option Lv} {r:Nat} {Inb:Nat→Option Seat} {nG:Nat} {w:World} {v:Lv} {Final:Machine→Trace→Prop}
theorem beg_go (co:Co kb l K L r Inb nG w)(h0:0<nG){p:Nat}(hp:p<K.nS)(kd A B:Int)(fr:Frame)(cs:List Frame)
  (hx:∀ w' (C:Ctx) H Inb',C.slot=(p:Int)→C.kd=kd→C.A=A→C.B=B→OnK kb C→C.o.gid=nG→Co kb (C.o::l) K (ConcN.upd L nG (some ⟨C,opStrat C p,[C.o.bo],H,[runFr C.o,bot]⟩)) r Inb' (nG+1) w'→Kp kb L w (ConcN.upd L nG (some ⟨C,opStrat C p,[C.o.bo],H,[runFr C.o,bot]⟩)) w'→X Tryd.prog Final (C.o::l) Inb' (nG+1) 0 (G (fr.finish (pO C.o)) cs) w')
  {c:Nat→Nat}{w2:World}{bo:Nat}(hG:Grown w w2)(hN:New w.heap.size ⟨⟨nG,bo,c 0,c 1,c 2⟩,p,kd,A,B,kb.bk,kb.bf,kb.bs,kb.bd⟩ w2)(t5:Value) :
  X Tryd.prog Final (⟨nG,bo,c 0,c 1,c 2⟩ :: l) Inb nG 0 (G ((base 41).at ⟨#[.pointer (some ⟨kb.bk,0,none⟩),.int .i64 p,.agg #[.int .i64 kd,.int .i64 A,.int .i64 B],undef,undef,t5,.pointer none,.pointer (some ⟨bo,0,none⟩),.chan (some (c 0)),.chan (some (c 1)),.chan (some (c 2)),.pointer (some ⟨kb.bk,0,none⟩),.int .i64 p,.agg #[.int .i64 kd,.int .i64 A,.int .i64 B],.agg #[.int .i64 kd,.int .i64 A,.int .i64 B,.int .i64 0,.int .i64 0],.agg (recV kb.bk p kd A B c),.pointer (some ⟨bo,0,none⟩),undef,undef],[]⟩ [.code begRest]) (fr::cs)) w2:=by
 have back:∀ d H Inb',Co kb (⟨nG,bo,c 0,c 1,c 2⟩ :: l) K (ConcN.upd L nG (some ⟨⟨⟨nG,bo,c 0,c 1,c 2⟩,p,kd,A,B,kb.bk,kb.bf,kb.bs,kb.bd⟩,opStrat ⟨⟨nG,bo,c 0,c 1,c 2⟩,p,kd,A,B,kb.bk,kb.bf,kb.bs,kb.bd⟩ p,[bo],H,[runFr ⟨nG,bo,c 0,c 1,c 2⟩,bot]⟩)) r Inb' (nG+1) (w2.at d)→Kp kb L w (ConcN.upd L nG (some ⟨⟨⟨nG,bo,c 0,c 1,c 2⟩,p,kd,A,B,kb.bk,kb.bf,kb.bs,kb.bd⟩,opStrat ⟨⟨nG,bo,c 0,c 1,c 2⟩,p,kd,A,B,kb.bk,kb.bf,kb.bs,kb.bd⟩ p,[bo],H,[runFr ⟨nG,bo,c 0,c 1,c 2⟩,bot]⟩)) (w2.at d)→X Tryd.prog Final (⟨nG,bo,c 0,c 1,c 2⟩ :: l) Inb' (nG+1) 0 (G (fr.finish (.pointer (some ⟨bo,0,none⟩))) cs) (w2.at d):=fun d H Inb' h1 h2=>hx (w2.at d) ⟨⟨nG,bo,c 0,c 1,c 2⟩,p,kd,A,B,kb.bk,kb.bf,kb.bs,kb.bd⟩ H Inb' rfl rfl rfl rfl ⟨rfl,rfl,rfl,rfl⟩ rfl h1 h2
 have hc:=hG.clear
 unfold begRest
 simp only [Tryd.f41,pO] at *
 refine Br.x_must (st:=true) ?_
 show Must Tryd.prog true (DL true (sfO (⟨nG,bo,c 0,c 1,c 2⟩ :: l))) _ _ (w2.at w2.drawn)
 generalize w2.drawn=dz
 refine Br.liv_seq (fun d=>?_) _
 refine Br.liv_region (fun d=>?_) _
 simp only [Br.rz,Br.ix,Nat.reduceAdd]
 refine Br.mo rfl rfl hc (fun d K' hK=>?_) _
 go_simp
 refine hK _ _ ⟨rfl,?_⟩
 clear hK K'
 refine .stop ?_
 refine co_born (C:=⟨⟨nG,bo,c 0,c 1,c 2⟩,p,kd,A,B,kb.bk,kb.bf,kb.bs,kb.bd⟩) co (hG.at d) ⟨hN.bo,hN.ch,hN.row,hN.chan,hN.ne⟩ ⟨rfl,rfl,rfl,rfl⟩ rfl h0 rfl hp rfl (fun d'=>(stepG_spawn (d:=dcall 63 #[pO ⟨nG,bo,c 0,c 1,c 2⟩]) (w':=(w2.at d).at d') rfl rfl (by decide) (by simp [go_sem,execOp,resolve,Deferred.ofValue,dcall,Act.eval]) rfl).trans (congrArg (fun es=>GStep.spawn _ _ _ es) (listed_none (by simp [go_sem,execOp,resolve,Deferred.ofValue,Act.eval])))) (fun d' H Inb' h1 h2=>?_)
 have back':=back d' H Inb' h1 h2
 have fin:∀ d,X Tryd.prog Final (⟨nG,bo,c 0,c 1,c 2⟩ :: l) Inb' (nG+1) 0 (G (fr.finish (.pointer (some ⟨bo,0,none⟩))) cs) (w2.at d):=fun d=>back d H Inb' (h1.at d) (fun k hM=>by obtain ⟨m1,m2⟩:=h2 k hM;exact ⟨⟨m1.lt,m1.nf,m1.ns,m1.nd,m1.own⟩,m2⟩)
 clear back back' h1 h2
 refine Br.x_must (st:=true) ?_
 show Must Tryd.prog true (DL true (sfO (⟨nG,bo,c 0,c 1,c 2⟩ :: l))) _ _ (w2.at d')
 simp only [Act.put]
 refine Br.liv_region_end (fun d=>?_) _
 refine Br.liv_seq (fun d=>?_) _
 refine Br.liv_region (fun d=>?_) _
 simp only [Br.rz,Br.ix,Nat.reduceAdd]
 refine Br.mo rfl rfl hc (fun d K' hK=>?_) _
 go_simp
 refine hK _ _ ⟨rfl,?_⟩
 clear hK K'
 refine Br.mo rfl rfl hc (fun d K' hK=>?_) _
 go_simp
 refine hK _ _ ⟨rfl,?_⟩
 clear hK K'
 refine Br.liv_region_end (fun d=>?_) _
 refine Br.liv_ret (fun d=>?_) _
 exact Br.liv_leave (v:=.pointer (some ⟨bo,0,none⟩)) rfl rfl Tryd.func41 (resultsC_tmp (t:=6) rfl _) (w:=w2) (fun d=>.stop (fin d)) _
theorem main_begin (co:Co kb l K L r Inb nG w)(h0:0<nG){p:Nat}(hp:p<K.nS)(kd A B:Int)(fr:Frame)(cs:List Frame)
  (hx:∀ w' (C:Ctx) H Inb',C.slot=(p:Int)→C.kd=kd→C.A=A→C.B=B→OnK kb C→C.o.gid=nG→Co kb (C.o::l) K (ConcN.upd L nG (some ⟨C,opStrat C p,[C.o.bo],H,[runFr C.o,bot]⟩)) r Inb' (nG+1) w'→Kp kb L w (ConcN.upd L nG (some ⟨C,opStrat C p,[C.o.bo],H,[runFr C.o,bot]⟩)) w'→X Tryd.prog Final (C.o::l) Inb' (nG+1) 0 (G (fr.finish (pO C.o)) cs) w') :
  X Tryd.prog Final l Inb nG 0 (G (Frame.enter Tryd.prog 41 #[.pointer (some ⟨kb.bk,0,none⟩),.int .i64 p,.agg #[.int .i64 kd,.int .i64 A,.int .i64 B]] .normal) (fr::cs)) w:=by
 have mid:∀ W,Grown w W→W.heap[w.heap.size]?=some (.cells #[.int .i64 kd,.int .i64 A,.int .i64 B] 38 (0,0))→W.heap.size=w.heap.size+1→∀ d,X Tryd.prog Final l Inb nG 0 (G ((base 41).at ⟨#[.pointer (some ⟨kb.bk,0,none⟩),.int .i64 p,.agg #[.int .i64 kd,.int .i64 A,.int .i64 B],undef,undef,.pointer (some ⟨w.heap.size,0,none⟩),.pointer none,undef,undef,undef,undef,undef,undef,undef,undef,undef,undef,undef,undef],[]⟩ [.code (.region 1 begOps true),.code begRest]) (fr::cs)) (W.at d):=by
  intro W hg hX hz d
  have xc:∀ (j:Nat) (x:Value),(#[Value.int .i64 kd,.int .i64 A,.int .i64 B]:Array Value)[j]?=some x→W.cell? ⟨w.heap.size,j,none⟩=some x:=fun j x h=>by simp only [World.cell?,hX];simpa using h
  refine Br.x_pre (W.heap.size+3) (by show W.heap.size≤_;omega) ?_
  refine Br.xp_must (st:=false) (fun e=>by cases e) ?_
  show Must Tryd.prog true (DL false (sfO l)) _ _ (W.at d)
  refine must_draw (fun t d=>?_) d
  refine beg_ph1 (bk:=kb.bk) (bx:=w.heap.size) (bo:=W.heap.size+3) (p:=p) (kd:=kd) (A:=A) (B:=B) (W:=W) (tb:=#[.pointer (some ⟨kb.bk,0,none⟩),.int .i64 p,.agg #[.int .i64 kd,.int .i64 A,.int .i64 B],undef,undef,.pointer (some ⟨w.heap.size,0,none⟩),.pointer none,undef,undef,undef,undef,undef,undef,undef,undef,undef,undef,undef,undef]) rfl rfl rfl rfl rfl (by omega) (xc 0 _ rfl) (xc 1 _ rfl) (xc 2 _ rfl) _ _ (fun c w2 hG2 hs2 hch hrow d=>?_) _ _ (⟨#[.pointer (some ⟨kb.bk,0,none⟩),.int .i64 p,.agg #[.int .i64 kd,.int .i64 A,.int .i64 B],undef,undef,.pointer (some ⟨w.heap.size,0,none⟩),.pointer none,undef,undef,undef,undef,undef,undef,undef,undef,undef,undef,undef,undef],[]⟩,W) _ (Br.ord_start (by kernel_rfl) begOps t) ⟨fun _=>0,Br.Agr.start _ _ _,Grown.refl hg.clear,?_,⟨fun i hi h=>?_,fun i j hi hj hne h=>?_⟩,fun h=>?_,fun h=>?_,fun j _=>rep_off _ _⟩ d
  ·generalize hbo:W.heap.size+3=bo at *
   rw [show Br.fill begOps (begV kb.bk p kd A B c bo) #[.pointer (some ⟨kb.bk,0,none⟩),.int .i64 p,.agg #[.int .i64 kd,.int .i64 A,.int .i64 B],undef,undef,.pointer (some ⟨w.heap.size,0,none⟩),.pointer none,undef,undef,undef,undef,undef,undef,undef,undef,undef,undef,undef,undef]=#[.pointer (some ⟨kb.bk,0,none⟩),.int .i64 p,.agg #[.int .i64 kd,.int .i64 A,.int .i64 B],undef,undef,.pointer (some ⟨w.heap.size,0,none⟩),.pointer none,.pointer (some ⟨bo,0,none⟩),.chan (some (c 0)),.chan (some (c 1)),.chan (some (c 2)),.pointer (some ⟨kb.bk,0,none⟩),.int .i64 p,.agg #[.int .i64 kd,.int .i64 A,.int .i64 B],.agg #[.int .i64 kd,.int .i64 A,.int .i64 B,.int .i64 0,.int .i64 0],.agg (recV kb.bk p kd A B c),.pointer (some ⟨bo,0,none⟩),undef,undef] from by kernel_rfl]
   refine Br.liv_region_end (fun d=>?_) _
   refine .stop ?_
   have hgt:w.heap.size≤bo:=by omega
   have hN:New w.heap.size ⟨⟨nG,bo,c 0,c 1,c 2⟩,p,kd,A,B,kb.bk,kb.bf,kb.bs,kb.bd⟩ (w2.at d):=by
    have hh:=fun i hi=>hch.is i hi trivial
    refine ⟨hgt,⟨by have:=(hh 0 (by omega)).1;show w.heap.size≤c 0;omega,by have:=(hh 1 (by omega)).1;show w.heap.size≤c 1;omega,by have:=(hh 2 (by omega)).1;show w.heap.size≤c 2;omega⟩,⟨111,hrow⟩,fun x hx=>?_,hch.ne 0 1 (by omega) (by omega) (by omega) trivial trivial,hch.ne 0 2 (by omega) (by omega) (by omega) trivial trivial,hch.ne 1 2 (by omega) (by omega) (by omega) trivial trivial⟩
    rcases hx with rfl|rfl|rfl
    ·exact (hh 0 (by omega)).2.2
    ·exact (hh 1 (by omega)).2.2
    ·exact (hh 2 (by omega)).2.2
   refine Br.x_come ⟨nG,bo,c 0,c 1,c 2⟩ hN.ko (fun i s x hi hs e=>?_) (beg_go co h0 hp kd A B fr cs hx ((hg.trans hG2).at d) hN _)
   by_cases ei:i=0
   ·subst ei
    have:=co.main0 s x hi hs
    have e':bo=x:=e
    omega
   ·obtain ⟨u,hu,rfl⟩:=co.inb ei hi
    have:=co.ch_lt hu (c:=x) (by rcases seatO_has hs with h|h;exact .inl h;exact .inr (.inr h))
    have e':bo=x:=e
    omega
  ·show W.heap.size=W.heap.size+cnt _
   unfold cnt
   rw [rep_off,rep_off,rep_off];rfl
  ·rw [rep_off] at h;cases h
  ·rw [rep_off] at h;cases h
  ·rw [rep_off] at h;cases h
  ·rw [rep_off] at h;cases h
 rw [begin_enter,beg_body]
 unfold begR0
 simp only [Tryd.f41]
 refine Br.x_must (st:=true) ?_
 show Must Tryd.prog true (DL true (sfO l)) _ _ (w.at w.drawn)
 generalize w.drawn=dz
 have hc:=co.env.fit.clear
 refine Br.liv_seq (fun d=>?_) _
 refine Br.liv_region (fun d=>?_) _
 simp only [Br.rz,Br.ix,Nat.reduceAdd]
 refine Br.must_operW rfl rfl (by decide) (fun d K' hK=>?_) _
 go_simp
 refine hK _ _ ⟨Br.dl_alloc (fun e he=>?_),?_⟩
 ·have hm:=mem_listed he
  simp [go_sem] at hm
 clear hK K'
 refine must_new trivial hc (fun W hg hX hz d=>?_)
 have hc2:=hg.clear
 refine Br.mo rfl rfl hc2 (fun d K' hK=>?_) _
 go_simp
 refine hK _ _ ⟨rfl,?_⟩
 clear hK K'
 refine Br.liv_region_end (fun d=>?_) _
 refine Br.liv_seq (fun d=>?_) _
 exact .stop (mid W hg hX hz _)
end
end Go.Proofs.YtcgabodkegcpgaaDoor
namespace Go.Proofs.YtcgabodkegcpgaaDoor
open Go.Conc Go.RowKit
open Br (OpD KO SO SP sfO Lk Fit Must DL Liv Clear X)
attribute [local go_sem ↓] Go.wp_at_zero Go.wp_at_succ
structure Lb where
 bl:Nat
 bu:Nat
 bn:Nat
def ptrU:Option OpD→Value
 | none=>.pointer none
 | some o=>pO o
def RowU (w:World)(b n:Nat)(f:Nat→Value):Prop:=∃ c t,w.heap[b]?=some (.cells c t (0,0))∧c.size=n∧∀ p,p<n→c[p]?=some (f p)
theorem RowU.cell {w:World}{b n:Nat}{f:Nat→Value}(h:RowU w b n f){p:Nat}(hp:p<n):w.cell? ⟨b,p,none⟩=some (f p):=by
 obtain ⟨c,t,h1,h2,h3⟩:=h
 simp only [World.cell?,h1]
 simpa using h3 p hp
theorem RowU.frozen {w:World}{b n:Nat}{f:Nat→Value}(h:RowU w b n f)(p:Nat):w.frozen? ⟨b,p,none⟩=false:=by
 obtain ⟨c,t,h1,h2,h3⟩:=h
 simp [World.frozen?,h1]
theorem RowU.of {w w':World}{b n:Nat}{f:Nat→Value}(h:RowU w b n f)(e:w'.heap[b]?=w.heap[b]?):RowU w' b n f:=by
 obtain ⟨c,t,h1,h2,h3⟩:=h
 exact ⟨c,t,by rw [e];exact h1,h2,h3⟩
theorem RowU.lt {w:World}{b n:Nat}{f:Nat→Value}(h:RowU w b n f):b<w.heap.size:=by
 obtain ⟨c,t,h1,h2,h3⟩:=h
 exact (Array.getElem?_eq_some_iff.1 h1).1
theorem RowU.set {w:World}{b n:Nat}{f:Nat→Value}(h:RowU w b n f){p:Nat}(hp:p<n)(x:Value):RowU (w.setCell ⟨b,p,none⟩ x) b n (fun q=>if q=p then x else f q):=by
 obtain ⟨c,t,h1,h2,h3⟩:=h
 refine ⟨_,t,row_set c t p x w b h1,by simp [h2],fun q hq=>?_⟩
 by_cases e:q=p
 ·subst e;simp [h2,hp]
 ·simp only [e,if_false]
  rw [Array.getElem?_setIfInBounds_ne (Ne.symm e)]
  exact h3 q hq
structure LibIs (w:World) (b:Lb) (bk n B0:Nat) (U:Nat→Option OpD) (V:Nat→Value) (N:Nat→Nat) (Xs:Nat→List Value):Prop where
 k0:w.cell? ⟨b.bl,0,none⟩=some (.pointer (some ⟨bk,0,none⟩))
 k1:w.cell? ⟨b.bl,1,none⟩=some (.slice (some ⟨b.bu,0,none⟩) n n)
 k2:w.cell? ⟨b.bl,2,none⟩=some (.slice (some ⟨b.bn,0,none⟩) n n)
 u:RowU w b.bu n (fun p=>ptrU (U p))
 d:RowU w b.bn n V
 own:∀ p,p<n→w.ownsRow B0 70 5 (V p) (N p) (Xs p)
 far:∀ p q,p<n→q<n→p≠q→(V p).ownBlock=none∨(V p).ownBlock≠(V q).ownBlock
 ne:b.bl≠b.bu∧b.bl≠b.bn∧b.bu≠b.bn∧b.bl<B0∧b.bu<B0∧b.bn<B0
 small:n≤6
theorem isProcess_any (v:World)(bl bu n:Nat)(s:Int)(h1:v.cell? ⟨bl,1,none⟩=some (.slice (some ⟨bu,0,none⟩) n n)) :
  Calls Tryd.prog 40 #[.pointer (some ⟨bl,0,none⟩),.int .i64 s] v fun e v'=>e=.returned (.bool (decide (0≤s) && decide (s<n)))∧v'=v:=by
 go_enter Tryd.func40,Tryd.ntmps40
 by_cases hs:0≤s
 ·have e:(decide (0≤s) && decide (s<(n:Int)))=decide (s<(n:Int)):=by simp [hs]
  rw [e]
  go_wp2_with fail
  go_ret
  exact ⟨rfl,rfl⟩
 ·have e:(decide (0≤s) && decide (s<(n:Int)))=false:=by simp [hs]
  rw [e]
  go_wp2_with fail
  go_ret
  exact ⟨rfl,rfl⟩
end Go.Proofs.YtcgabodkegcpgaaDoor
namespace Go.Proofs.YtcgabodkegcpgaaDoor.App
open Go.RowKit
theorem run_append_one {P:Program}(w:World)(base:Nat)(t ty e:TypeId)(i:TypeInfo)(z:Value)(size bytes:Nat)(ht:P.underlying t=some (.slice e))(hi:P.info? e=some i)(hz:i.zero=some z)
  (hsize:i.size=size)(hby:i.bytes=bytes)(hzs:z.cells.size=size)
  (v:Value)(n:Nat)(xs:List Value)(hown:w.ownsRow base e size v n xs)
  (a:Addr)(c:Nat)(news:List Value)(hl:news.length=size)(hnews:∀ j u,news[j]?=some u→w.cell? (a.add j)=some u)(h1:∀ u∈news,u.oneCell'=true)
  (h63:n+1≤maxLen)(hfit:Builtin.nextslicecap (n+1) n*bytes≤281474976710656)(hbase:base≤w.heap.size) :
  ∃ g cap w',(Builtin.append_ #[t,t] ty #[v,.slice (some a) 1 c]).run P w=.ok (.slice (some ⟨g,0,none⟩) (n+1) cap) w'∧w'.ownsRow base e size (.slice (some ⟨g,0,none⟩) (n+1) cap) (n+1) (xs ++ news)∧w.grownBy w' v.ownBlock∧(v.ownBlock=some g∨g=w.heap.size):=by
 subst hsize
 subst hby
 have hl':news.length=1*i.size:=by omega
 have hlen:(xs ++ news).length=(n+1)*i.size:=by rw [List.length_append,hown.1,hl',Nat.add_mul]
 have hsmall:n+1≤9223372036854775807:=by simp only [maxLen] at h63;omega
 have grown:∀ (old:Nat),∀ (row:Option Nat),
   (w.drew.alloc (.cells (xs.toArray ++ news.toArray ++ Builtin.zeroCells z.cells (grownCap w (n+1) old e - (n+1))) e)).ownsRow base e i.size
    (.slice (some ⟨w.heap.size,0,none⟩) (n+1) (grownCap w (n+1) old e)) (n+1) (xs ++ news) ∧
   w.grownBy (w.drew.alloc (.cells (xs.toArray ++ news.toArray ++ Builtin.zeroCells z.cells (grownCap w (n+1) old e - (n+1))) e)) row:=by
  intro old row
  have hge:=grownCap_ge w (n+1) old e
  have hcm:grownCap w (n+1) old e≤maxLen:=grownCap_le_maxLen w (n+1) old e h63
  refine ⟨⟨hlen,.inr ⟨w.heap.size,_,_,rfl,hbase,heap_alloc_new w.drew _,hge,hcm,?_,?_⟩⟩,⟨rfl,rfl,rfl,by simp,fun k hk _=>Below.heap_alloc w.drew _ k hk⟩⟩
  ·simp only [Array.size_append,List.size_toArray,size_zeroCells,hzs,hown.1,hl',← Nat.add_mul]
   congr 1
   omega
  ·simp only [Array.toList_append,List.append_assoc]
   rw [← List.append_assoc,← hlen]
   exact List.take_left
 rcases hown.2 with ⟨rfl,rfl⟩|⟨g,cap,cur,rfl,hbg,hg,hnc,hcm,hcs,htake⟩
 ·have hx:xs=[]:=List.eq_nil_of_length_eq_zero (by simpa using hown.1)
  subst hx
  have hr:=run_append_nil (P:=P) w t ty e i z ht hi hz a 1 c news hl' hnews (by omega) (by omega) (by rw [Nat.zero_add,nextslicecap_zero (by omega)] at hfit;exact hfit)
  have hgr:=grown 0 (Value.ownBlock (.slice none 0 0))
  simp only [Nat.zero_add,List.nil_append,Array.empty_append] at hgr ⊢
  exact ⟨_,_,_,hr,hgr.1,hgr.2,Or.inr rfl⟩
 ·by_cases hroom:n+1≤cap
  ·have hf:n*i.size+news.length≤cur.size:=by rw [hl',hcs,← Nat.add_mul];exact Nat.mul_le_mul_right _ hroom
   have hr:=run_append_room (P:=P) w t ty e i ht hi g n cap cur hg a 1 c news hl' hnews h1 hroom hf
   refine ⟨_,_,_,hr,⟨hlen,.inr ⟨g,cap,_,rfl,hbg,setRow_heap w g cur _ e _ hg,hroom,hcm,?_,?_⟩⟩,⟨rfl,rfl,rfl,by simp,fun k _ hk=>setRow_other w g k _ (fun e=>hk (by simp [Value.ownBlock,e]))⟩,Or.inl rfl⟩
   ·simp only [List.size_toArray,List.length_append,List.length_take,List.length_drop,Array.length_toList]
    omega
   ·rw [htake,← hlen]
    exact List.take_left
  ·obtain rfl:cap=n:=by omega
   have hr:=run_append_grow (P:=P) w t ty e i z ht hi hz ⟨g,0,none⟩ cap cap xs hown.1 (hown.cells (g:=g) rfl) a 1 c news hl' hnews (by omega) (by omega) hfit
   have hgr:=grown cap (Value.ownBlock (.slice (some ⟨g,0,none⟩) cap cap))
   exact ⟨_,_,_,hr,hgr.1,hgr.2,Or.inr rfl⟩
end Go.Proofs.YtcgabodkegcpgaaDoor.App
namespace Go.Proofs.YtcgabodkegcpgaaDoor
open Go.Conc Go.RowKit
open Br (X OpD KO SO SP sfO Lk Fit Must DL Liv Clear)
noncomputable def pkOps:Array Oper :=
 match Tryd.f18.body with
 | some (.seq _ (.seq _ (.seq _ (.seq _ (.seq _ (.seq _ (.seq (.region _ ops _) _)))))))=>ops
 | _=>#[]
theorem pk_one:Br.oneDst pkOps=true:=by kernel_rfl
section
variable {P:Program} {Q:Exit→Act→World→Prop} {ops:Array Oper} {i:Nat} {o:Oper} {a:Act} {rest:List Nat} {w w':World} {v:Value}
theorem wp_val (ho:ops[i]?=some o)(hg:o.guard=none)(hr:(execOp a.eval o).run P w=.ok (.value v) w')(h:wpOps P ops Q rest (a.put o.dst v) w'):wpOps P ops Q (i::rest) a w:=by
 rw [wpOps_cons]
 unfold wpOp
 simp only [ho]
 rw [if_pos (by unfold Region.wanted;rw [hg])]
 refine .inl ?_
 unfold Oper.wp
 rw [hr]
 exact h
theorem wp_skip (ho:ops[i]?=some o)(hg:o.guard=none)(hr:(execOp a.eval o).run P w=.ok .skip w')(h:wpOps P ops Q rest (a.put o.dst undef) w'):wpOps P ops Q (i::rest) a w:=by
 rw [wpOps_cons]
 unfold wpOp
 simp only [ho]
 rw [if_pos (by unfold Region.wanted;rw [hg])]
 refine .inl ?_
 unfold Oper.wp
 rw [hr]
 exact h
end
def ent (kd A B e x:Int):List Value:=[.int .i64 kd,.int .i64 A,.int .i64 B,.int .i64 e,.int .i64 x]
def pkV (bl bn n p bo n1 g m cap:Nat)(Vp:Value)(es:List Value):Nat→Value
 | 0=>.pointer (some ⟨bl,0,none⟩)|1=>.pointer (some ⟨bl,0,none⟩)|2=>.pointer (some ⟨bl,2,none⟩)|3=>.slice (some ⟨bn,0,none⟩) n n|4=>.int .i64 p
 | 5=>.pointer (some ⟨bl,0,none⟩)|6=>.pointer (some ⟨bl,0,none⟩)|7=>.pointer (some ⟨bl,2,none⟩)|8=>.slice (some ⟨bn,0,none⟩) n n|9=>.int .i64 p
 | 10=>.pointer (some ⟨bn,p,none⟩)|11=>Vp|12=>.pointer (some ⟨bo,0,none⟩)|13=>.pointer (some ⟨bo,0,none⟩)|14=>.pointer (some ⟨bo,5,none⟩)|15=>.agg es.toArray
 | 16=>.slice (some ⟨n1,0,none⟩) 1 1|17=>.slice (some ⟨g,0,none⟩) m cap|18=>.pointer (some ⟨bn,p,none⟩)|_=>undef
structure PkS (w:World) (bl bn n p bo:Nat) (kd A B er va:Int) (Vp:Value):Prop where
 l:w.cell? ⟨bl,2,none⟩=some (.slice (some ⟨bn,0,none⟩) n n)
 d:w.cell? ⟨bn,p,none⟩=some Vp
 r:∀ j x,(ent kd A B er va)[j]?=some x→w.cell? ⟨bo,5+j,none⟩=some x
def WlP (w0 w1 w2 w3:World)(listed:Array Bool):World:=if listed.getD 19 false then w3 else if listed.getD 17 false then w2 else if listed.getD 16 false then w1 else w0
theorem WlP_else {w0 w1 w2 w3:World}{listed:Array Bool}{i:Nat}(h6:i≠16)(h7:i≠17)(h9:i≠19):WlP w0 w1 w2 w3 (listed.setIfInBounds i true)=WlP w0 w1 w2 w3 listed:=by
 unfold WlP
 rw [set_else h6,set_else h7,set_else h9]
theorem pk_orders {bl bn n p bo n1 g m cap:Nat}{kd A B er va:Int}{Vp:Value}{tb:Array Value}(hsz:tb.size=47)(b0:tb[0]?=some (.pointer (some ⟨bl,0,none⟩)))(b1:tb[1]?=some (.int .i64 p))(b6:tb[6]?=some (.pointer (some ⟨bo,0,none⟩)))(hp:p<n){w0 w1 w2 w3:World}{Q:Exit→Act→World→Prop}
  (s0:PkS w0 bl bn n p bo kd A B er va Vp)(s1:PkS w1 bl bn n p bo kd A B er va Vp)(s2:PkS w2 bl bn n p bo kd A B er va Vp)
  (r16:∀ (o:Oper) (a:Act),o.op=.buildSlice 65 1 #[(0,.tmp 43)]→a.eval (.tmp 43)=.agg (ent kd A B er va).toArray→(execOp a.eval o).run Tryd.prog w0=.ok (.value (.slice (some ⟨n1,0,none⟩) 1 1)) w1)
  (r17:∀ (o:Oper) (a:Act),o.op=.call { callee:=.builtin .append,args:=#[.tmp 39,.tmp 44],argTypes:=#[65,65] }→o.type=65→a.eval (.tmp 39)=Vp→a.eval (.tmp 44)=.slice (some ⟨n1,0,none⟩) 1 1→(execOp a.eval o).run Tryd.prog w1=.ok (.value (.slice (some ⟨g,0,none⟩) m cap)) w2)
  (r19:∀ (o:Oper) (a:Act),o.op=.store 65 (.tmp 46) (.tmp 45)→a.eval (.tmp 46)=.pointer (some ⟨bn,p,none⟩)→a.eval (.tmp 45)=.slice (some ⟨g,0,none⟩) m cap→(execOp a.eval o).run Tryd.prog w2=.ok .skip w3)
  (hfin:Q .normal ⟨Br.fill pkOps (pkV bl bn n p bo n1 g m cap Vp (ent kd A B er va)) tb,[]⟩ w3) :
  ∀ fuel listed (aw:Act × World) rest,Br.Ord pkOps fuel listed rest→(Br.Agr pkOps (pkV bl bn n p bo n1 g m cap Vp (ent kd A B er va)) tb listed aw.1∧aw.2=WlP w0 w1 w2 w3 listed∧(listed.getD 18 false=true→∀ j,j≤17→listed.getD j false=true)∧(listed.getD 19 false=true→listed.getD 18 false=true)∧(listed.getD 17 false=true→listed.getD 16 false=true))→wpOps Tryd.prog pkOps Q rest aw.1 aw.2:=by
 have i0:(0:Int)≤(p:Int):=by omega
 have i1:(p:Int)<(n:Int):=by omega
 refine ord_anyS (J:=fun (aw:Act × World) rest=>wpOps Tryd.prog pkOps Q rest aw.1 aw.2) (fun f0 listed aw q rest hi hA2 hO hIH=>?_) (fun listed aw hr hA2=>?_)
 ·obtain ⟨a,w⟩:=aw
  obtain ⟨hA,hw,h18,h19,h176⟩:=hA2
  simp only at hA hw
  have Hw:Hid (w=WlP w0 w1 w2 w3 listed):=hw
  clear hw
  have no19:q≤18→listed.getD 19 false=false:=fun hq=>by
   cases e:listed.getD 19 false with
   | false=>rfl
   | true =>
    have e18:=h19 e
    rcases Nat.lt_or_ge q 18 with h|h
    ·exact (Br.ready_no hi (h18 e18 q (by omega))).elim
    ·obtain rfl:q=18:=by omega
     exact (Br.ready_no hi e18).elim
  have hS:q≤18→PkS w bl bn n p bo kd A B er va Vp:=fun hq=>by
   rw [Hw.out];unfold WlP
   rw [no19 hq]
   simp only [Bool.false_eq_true,if_false]
   split
   ·exact s2
   ·split
    ·exact s1
    ·exact s0
  have keep:q≤15∨q=18→(q=18→∀ j,j≤17→listed.getD j false=true)→∀ a',Br.Agr pkOps (pkV bl bn n p bo n1 g m cap Vp (ent kd A B er va)) tb (listed.setIfInBounds q true) a'→wpOps Tryd.prog pkOps Q rest a' w:=fun hq h18q a' h=>hIH (a',w) ⟨h,by rw [WlP_else (by omega) (by omega) (by omega)];exact Hw.out,fun h1 j hj=>(by
    by_cases e:q=18
    ·exact Br.set_on (h18q e j hj)
    ·rw [set_else e] at h1;exact Br.set_on (h18 h1 j hj)),fun h1=>(by rw [set_else (by omega),no19 (by omega)] at h1;cases h1),fun h1=>by rw [set_else (by omega)] at h1 ⊢;exact h176 h1⟩
  have hlt:=Br.ready_lt hi
  have hz:pkOps.size=20:=by kernel_rfl
  rw [hz] at hlt
  have hcs:q=0∨q=1∨q=2∨q=3∨q=4∨q=5∨q=6∨q=7∨q=8∨q=9∨q=10∨q=11∨q=12∨q=13∨q=14∨q=15∨q=16∨q=17∨q=18∨q=19:=by omega
  rcases hcs with rfl|rfl|rfl|rfl|rfl|rfl|rfl|rfl|rfl|rfl|rfl|rfl|rfl|rfl|rfl|rfl|rfl|rfl|rfl|rfl
  ·obtain ⟨o,ho,hop,hg⟩:∃ o,pkOps[0]?=some o∧o.op=.move (.tmp 0)∧o.guard=none:=⟨_,rfl,rfl,rfl⟩
   have e0:a.eval (.tmp 0)=.pointer (some ⟨bl,0,none⟩):=hA.base (by kernel_rfl) b0
   exact wp_val ho hg (v:=.pointer (some ⟨bl,0,none⟩)) (w':=w) (run_move hop e0) (keep (by omega) (fun e=>by omega) _ (hA.put pk_one ho rfl))
  ·obtain ⟨o,ho,hop,hg⟩:∃ o,pkOps[1]?=some o∧o.op=.nilCheck (.tmp 28)∧o.guard=none:=⟨_,rfl,rfl,rfl⟩
   have e28:a.eval (.tmp 28)=.pointer (some ⟨bl,0,none⟩):=hA.tmp (j:=0) rfl rfl (Br.ready_after hi rfl (by kernel_rfl)) (by omega) rfl
   exact wp_val ho hg (v:=.pointer (some ⟨bl,0,none⟩)) (w':=w) (by unfold execOp;simp only [hop,e28];go_simp) (keep (by omega) (fun e=>by omega) _ (hA.put pk_one ho rfl))
  ·obtain ⟨o,ho,hop,hg⟩:∃ o,pkOps[2]?=some o∧o.op=.fieldAddr 104 (.tmp 29) 2∧o.guard=none:=⟨_,rfl,rfl,rfl⟩
   have e29:a.eval (.tmp 29)=.pointer (some ⟨bl,0,none⟩):=hA.tmp (j:=1) rfl rfl (Br.ready_after hi rfl (by kernel_rfl)) (by omega) rfl
   exact wp_val ho hg (v:=.pointer (some ⟨bl,2,none⟩)) (w':=w) (by unfold execOp;simp only [hop,e29];go_simp) (keep (by omega) (fun e=>by omega) _ (hA.put pk_one ho rfl))
  ·obtain ⟨o,ho,hop,hg⟩:∃ o,pkOps[3]?=some o∧o.op=.load 64 (.tmp 30)∧o.guard=none:=⟨_,rfl,rfl,rfl⟩
   have e30:a.eval (.tmp 30)=.pointer (some ⟨bl,2,none⟩):=hA.tmp (j:=2) rfl rfl (Br.ready_after hi rfl (by kernel_rfl)) (by omega) rfl
   obtain ⟨s1',s2',s3'⟩:=hS (by omega)
   exact wp_val ho hg (v:=.slice (some ⟨bn,0,none⟩) n n) (w':=w) (by unfold execOp;simp only [hop,e30];go_simp;try rfl) (keep (by omega) (fun e=>by omega) _ (hA.put pk_one ho rfl))
  ·obtain ⟨o,ho,hop,hg⟩:∃ o,pkOps[4]?=some o∧o.op=.move (.tmp 1)∧o.guard=none:=⟨_,rfl,rfl,rfl⟩
   have e1:a.eval (.tmp 1)=.int .i64 p:=hA.base (by kernel_rfl) b1
   exact wp_val ho hg (v:=.int .i64 p) (w':=w) (run_move hop e1) (keep (by omega) (fun e=>by omega) _ (hA.put pk_one ho rfl))
  ·obtain ⟨o,ho,hop,hg⟩:∃ o,pkOps[5]?=some o∧o.op=.move (.tmp 0)∧o.guard=none:=⟨_,rfl,rfl,rfl⟩
   have e0:a.eval (.tmp 0)=.pointer (some ⟨bl,0,none⟩):=hA.base (by kernel_rfl) b0
   exact wp_val ho hg (v:=.pointer (some ⟨bl,0,none⟩)) (w':=w) (run_move hop e0) (keep (by omega) (fun e=>by omega) _ (hA.put pk_one ho rfl))
  ·obtain ⟨o,ho,hop,hg⟩:∃ o,pkOps[6]?=some o∧o.op=.nilCheck (.tmp 33)∧o.guard=none:=⟨_,rfl,rfl,rfl⟩
   have e33:a.eval (.tmp 33)=.pointer (some ⟨bl,0,none⟩):=hA.tmp (j:=5) rfl rfl (Br.ready_after hi rfl (by kernel_rfl)) (by omega) rfl
   exact wp_val ho hg (v:=.pointer (some ⟨bl,0,none⟩)) (w':=w) (by unfold execOp;simp only [hop,e33];go_simp) (keep (by omega) (fun e=>by omega) _ (hA.put pk_one ho rfl))
  ·obtain ⟨o,ho,hop,hg⟩:∃ o,pkOps[7]?=some o∧o.op=.fieldAddr 104 (.tmp 34) 2∧o.guard=none:=⟨_,rfl,rfl,rfl⟩
   have e34:a.eval (.tmp 34)=.pointer (some ⟨bl,0,none⟩):=hA.tmp (j:=6) rfl rfl (Br.ready_after hi rfl (by kernel_rfl)) (by omega) rfl
   exact wp_val ho hg (v:=.pointer (some ⟨bl,2,none⟩)) (w':=w) (by unfold execOp;simp only [hop,e34];go_simp) (keep (by omega) (fun e=>by omega) _ (hA.put pk_one ho rfl))
  ·obtain ⟨o,ho,hop,hg⟩:∃ o,pkOps[8]?=some o∧o.op=.load 64 (.tmp 35)∧o.guard=none:=⟨_,rfl,rfl,rfl⟩
   have e35:a.eval (.tmp 35)=.pointer (some ⟨bl,2,none⟩):=hA.tmp (j:=7) rfl rfl (Br.ready_after hi rfl (by kernel_rfl)) (by omega) rfl
   obtain ⟨s1',s2',s3'⟩:=hS (by omega)
   exact wp_val ho hg (v:=.slice (some ⟨bn,0,none⟩) n n) (w':=w) (by unfold execOp;simp only [hop,e35];go_simp;try rfl) (keep (by omega) (fun e=>by omega) _ (hA.put pk_one ho rfl))
  ·obtain ⟨o,ho,hop,hg⟩:∃ o,pkOps[9]?=some o∧o.op=.move (.tmp 1)∧o.guard=none:=⟨_,rfl,rfl,rfl⟩
   have e1:a.eval (.tmp 1)=.int .i64 p:=hA.base (by kernel_rfl) b1
   exact wp_val ho hg (v:=.int .i64 p) (w':=w) (run_move hop e1) (keep (by omega) (fun e=>by omega) _ (hA.put pk_one ho rfl))
  ·obtain ⟨o,ho,hop,hg⟩:∃ o,pkOps[10]?=some o∧o.op=.indexAddr 64 (.tmp 36) (.tmp 37)∧o.guard=none:=⟨_,rfl,rfl,rfl⟩
   have e36:a.eval (.tmp 36)=.slice (some ⟨bn,0,none⟩) n n:=hA.tmp (j:=8) rfl rfl (Br.ready_after hi rfl (by kernel_rfl)) (by omega) rfl
   have e37:a.eval (.tmp 37)=.int .i64 p:=hA.tmp (j:=9) rfl rfl (Br.ready_after hi rfl (by kernel_rfl)) (by omega) rfl
   exact wp_val ho hg (v:=.pointer (some ⟨bn,p,none⟩)) (w':=w) (by unfold execOp;simp only [hop,e36,e37];go_simp) (keep (by omega) (fun e=>by omega) _ (hA.put pk_one ho rfl))
  ·obtain ⟨o,ho,hop,hg⟩:∃ o,pkOps[11]?=some o∧o.op=.load 65 (.tmp 38)∧o.guard=none:=⟨_,rfl,rfl,rfl⟩
   have e38:a.eval (.tmp 38)=.pointer (some ⟨bn,p,none⟩):=hA.tmp (j:=10) rfl rfl (Br.ready_after hi rfl (by kernel_rfl)) (by omega) rfl
   obtain ⟨s1',s2',s3'⟩:=hS (by omega)
   exact wp_val ho hg (v:=Vp) (w':=w) (by unfold execOp;simp only [hop,e38];go_simp;try rfl) (keep (by omega) (fun e=>by omega) _ (hA.put pk_one ho rfl))
  ·obtain ⟨o,ho,hop,hg⟩:∃ o,pkOps[12]?=some o∧o.op=.move (.tmp 6)∧o.guard=none:=⟨_,rfl,rfl,rfl⟩
   have e6:a.eval (.tmp 6)=.pointer (some ⟨bo,0,none⟩):=hA.base (by kernel_rfl) b6
   exact wp_val ho hg (v:=.pointer (some ⟨bo,0,none⟩)) (w':=w) (run_move hop e6) (keep (by omega) (fun e=>by omega) _ (hA.put pk_one ho rfl))
  ·obtain ⟨o,ho,hop,hg⟩:∃ o,pkOps[13]?=some o∧o.op=.nilCheck (.tmp 40)∧o.guard=none:=⟨_,rfl,rfl,rfl⟩
   have e40:a.eval (.tmp 40)=.pointer (some ⟨bo,0,none⟩):=hA.tmp (j:=12) rfl rfl (Br.ready_after hi rfl (by kernel_rfl)) (by omega) rfl
   exact wp_val ho hg (v:=.pointer (some ⟨bo,0,none⟩)) (w':=w) (by unfold execOp;simp only [hop,e40];go_simp) (keep (by omega) (fun e=>by omega) _ (hA.put pk_one ho rfl))
  ·obtain ⟨o,ho,hop,hg⟩:∃ o,pkOps[14]?=some o∧o.op=.fieldAddr 111 (.tmp 41) 5∧o.guard=none:=⟨_,rfl,rfl,rfl⟩
   have e41:a.eval (.tmp 41)=.pointer (some ⟨bo,0,none⟩):=hA.tmp (j:=13) rfl rfl (Br.ready_after hi rfl (by kernel_rfl)) (by omega) rfl
   exact wp_val ho hg (v:=.pointer (some ⟨bo,5,none⟩)) (w':=w) (by unfold execOp;simp only [hop,e41];go_simp) (keep (by omega) (fun e=>by omega) _ (hA.put pk_one ho rfl))
  ·obtain ⟨o,ho,hop,hg⟩:∃ o,pkOps[15]?=some o∧o.op=.load 70 (.tmp 42)∧o.guard=none:=⟨_,rfl,rfl,rfl⟩
   have e42:a.eval (.tmp 42)=.pointer (some ⟨bo,5,none⟩):=hA.tmp (j:=14) rfl rfl (Br.ready_after hi rfl (by kernel_rfl)) (by omega) rfl
   obtain ⟨s1',s2',s3'⟩:=hS (by omega)
   have y0:=s3' 0 _ rfl
   have y1:=s3' 1 _ rfl
   have y2:=s3' 2 _ rfl
   have y3:=s3' 3 _ rfl
   have y4:=s3' 4 _ rfl
   exact wp_val ho hg (v:=.agg (ent kd A B er va).toArray) (w':=w) (by unfold execOp;simp only [hop,e42];go_simp;try rfl) (keep (by omega) (fun e=>by omega) _ (hA.put pk_one ho rfl))
  ·obtain ⟨o,ho,hop,hg⟩:∃ o,pkOps[16]?=some o∧o.op=.buildSlice 65 1 #[(0,.tmp 43)]∧o.guard=none:=⟨_,rfl,rfl,rfl⟩
   have e43:a.eval (.tmp 43)=.agg (ent kd A B er va).toArray:=hA.tmp (j:=15) rfl rfl (Br.ready_after hi rfl (by kernel_rfl)) (by omega) rfl
   have f16:=ready_false hi
   have f17:listed.getD 17 false=false:=by
    cases e:listed.getD 17 false with
    | false=>rfl
    | true=>rw [h176 e] at f16;cases f16
   have hw0:w=w0:=by rw [Hw.out];unfold WlP;rw [no19 (by omega),f17,f16];rfl
   subst hw0
   exact wp_val ho hg (r16 o a hop e43) (hIH (_,w1) ⟨hA.put pk_one ho rfl,by unfold WlP;rw [set_else (by omega),set_else (by omega),no19 (by omega),f17,Br.set_now hi];rfl,fun h1 j hj=>(by rw [set_else (by omega)] at h1;exact Br.set_on (h18 h1 j hj)),fun h1=>(by rw [set_else (by omega),no19 (by omega)] at h1;cases h1),fun _=>Br.set_now hi⟩)
  ·obtain ⟨o,ho,hop,hty,hg⟩:∃ o,pkOps[17]?=some o∧o.op=.call { callee:=.builtin .append,args:=#[.tmp 39,.tmp 44],argTypes:=#[65,65] }∧o.type=65∧o.guard=none:=⟨_,rfl,rfl,rfl,rfl⟩
   have e39:a.eval (.tmp 39)=Vp:=hA.tmp (j:=11) rfl rfl (Br.ready_after hi rfl (by kernel_rfl)) (by omega) rfl
   have e44:a.eval (.tmp 44)=.slice (some ⟨n1,0,none⟩) 1 1:=hA.tmp (j:=16) rfl rfl (Br.ready_after hi rfl (by kernel_rfl)) (by omega) rfl
   have f17:=ready_false hi
   have f16:listed.getD 16 false=true:=Br.ready_after hi rfl (by kernel_rfl)
   have hw1:w=w1:=by rw [Hw.out];unfold WlP;rw [no19 (by omega),f17,f16];rfl
   subst hw1
   exact wp_val ho hg (r17 o a hop hty e39 e44) (hIH (_,w2) ⟨hA.put pk_one ho rfl,by unfold WlP;rw [set_else (by omega),no19 (by omega),Br.set_now hi];rfl,fun h1 j hj=>(by rw [set_else (by omega)] at h1;exact Br.set_on (h18 h1 j hj)),fun h1=>(by rw [set_else (by omega),no19 (by omega)] at h1;cases h1),fun _=>Br.set_on f16⟩)
  ·obtain ⟨o,ho,hop,hg⟩:∃ o,pkOps[18]?=some o∧o.op=.indexAddr 64 (.tmp 31) (.tmp 32)∧o.guard=none:=⟨_,rfl,rfl,rfl⟩
   have e31:a.eval (.tmp 31)=.slice (some ⟨bn,0,none⟩) n n:=hA.tmp (j:=3) rfl rfl (Br.ready_after hi rfl (by kernel_rfl)) (by omega) rfl
   have e32:a.eval (.tmp 32)=.int .i64 p:=hA.tmp (j:=4) rfl rfl (Br.ready_after hi rfl (by kernel_rfl)) (by omega) rfl
   exact wp_val ho hg (v:=.pointer (some ⟨bn,p,none⟩)) (w':=w) (by unfold execOp;simp only [hop,e31,e32];go_simp) (keep (by omega) (fun _ j hj=>by (have hcs:j=0∨j=1∨j=2∨j=3∨j=4∨j=5∨j=6∨j=7∨j=8∨j=9∨j=10∨j=11∨j=12∨j=13∨j=14∨j=15∨j=16∨j=17:=by omega);rcases hcs with rfl|rfl|rfl|rfl|rfl|rfl|rfl|rfl|rfl|rfl|rfl|rfl|rfl|rfl|rfl|rfl|rfl|rfl<;>exact Br.ready_after hi rfl (by kernel_rfl)) _ (hA.put pk_one ho rfl))
  ·obtain ⟨o,ho,hop,hg⟩:∃ o,pkOps[19]?=some o∧o.op=.store 65 (.tmp 46) (.tmp 45)∧o.guard=none:=⟨_,rfl,rfl,rfl⟩
   have e46:a.eval (.tmp 46)=.pointer (some ⟨bn,p,none⟩):=hA.tmp (j:=18) rfl rfl (Br.ready_after hi rfl (by kernel_rfl)) (by omega) rfl
   have e45:a.eval (.tmp 45)=.slice (some ⟨g,0,none⟩) m cap:=hA.tmp (j:=17) rfl rfl (Br.ready_after hi rfl (by kernel_rfl)) (by omega) rfl
   have f19:=ready_false hi
   have f17:listed.getD 17 false=true:=Br.ready_after hi rfl (by kernel_rfl)
   have hw2:w=w2:=by rw [Hw.out];unfold WlP;rw [f19,f17];rfl
   subst hw2
   have f18:listed.getD 18 false=true:=Br.ready_after hi rfl (by kernel_rfl)
   exact wp_skip ho hg (r19 o a hop e46 e45) (hIH (_,w3) ⟨hA.put pk_one ho rfl,by unfold WlP;rw [Br.set_now hi];rfl,fun h1 j hj=>Br.set_on (h18 f18 j hj),fun h1=>Br.set_on f18,fun h1=>Br.set_on (h176 f17)⟩)
 ·obtain ⟨a,w⟩:=aw
  obtain ⟨hA,hw,h18,h19,h176⟩:=hA2
  simp only at hA hw
  have hall:=Br.all_listed (by kernel_rfl) hA.len hr
  have hz:pkOps.size=20:=by kernel_rfl
  obtain rfl:=hA.full hall
  have e:w=w3:=by rw [hw];unfold WlP;rw [hall 19 (by omega)];rfl
  subst e
  exact hfin
end Go.Proofs.YtcgabodkegcpgaaDoor
