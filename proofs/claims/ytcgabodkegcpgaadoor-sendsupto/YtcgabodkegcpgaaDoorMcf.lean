/- cancel: main ends an operation. -/
import Derived.Test.YtcgabodkegcpgaaDoorMcc
import Derived.Conc.SmallLaws
set_option linter.unusedVariables false
set_option linter.unusedSimpArgs false
set_option maxHeartbeats 20000000
set_option maxRecDepth 100000
namespace Go.Proofs.YtcgabodkegcpgaaDoor
open Go.Conc Go.RowKit
open Br (X OpD KO SO SP sfO Lk Fit Must DL Liv Clear)
noncomputable def cnShut (o:OpD)(cs:List Frame):Goroutine :=
 match Tryd.f44.body with
 | some (.seq (.region _ ops _) c)=>G ((base 44).at ⟨#[pO o,undef,pO o,pO o,.pointer (some ⟨o.bo,2,none⟩),.chan (some o.en),undef,undef,undef,undef,undef],[]⟩ [.inRegion ops [4],.code c]) cs
 | _=>default
noncomputable def cnPast (o:OpD)(cs:List Frame):Goroutine :=
 match Tryd.f44.body with
 | some (.seq (.region _ ops _) c)=>G ((base 44).at ⟨#[pO o,undef,pO o,pO o,.pointer (some ⟨o.bo,2,none⟩),.chan (some o.en),undef,undef,undef,undef,undef],[]⟩ [.inRegion ops [],.code c]) cs
 | _=>default
noncomputable def cnRecv (o:OpD)(cs:List Frame):Goroutine :=
 match Tryd.f44.body with
 | some (.seq _ (.region _ ops _))=>G ((base 44).at ⟨#[pO o,undef,pO o,pO o,.pointer (some ⟨o.bo,2,none⟩),.chan (some o.en),pO o,pO o,.pointer (some ⟨o.bo,1,none⟩),.chan (some o.to),undef],[]⟩ [.inRegion ops [4]]) cs
 | _=>default
theorem cn_shut (o:OpD)(cs:List Frame){w:World}{cap k:Nat}(hc:w.heap[o.en]?=some (.chan cap #[] false k k false))(d:Nat):stepG Tryd.prog true (cnShut o cs) (w.at d)=.go (cnPast o cs) ((w.at d).setChan o.en cap #[] true k k false) (closeEvents o.en):=by
 unfold cnShut cnPast
 simp only [Tryd.f44]
 rw [stepG_close (c:=o.en) rfl rfl (by decide) rfl rfl (w:=w.at d) hc (by kernel_rfl)]
 rfl
theorem cn_at (o:OpD)(l:List OpD)(B:Nat)(cs:List Frame):AtIn Tryd.prog true (KO l) (SP l Br.no) B (toldSeat o.to false (cnRecv o cs)) (cnRecv o cs) (cnRecv o cs):=by
 unfold cnRecv
 simp only [Tryd.f44]
 exact atIn_of (s:=toldSeat o.to false _) rfl rfl (by decide) (fun w=>by simp [go_sem,execOp,rcase,Act.eval,toldSeat,Seat.one]) (fun w=>by simp [go_sem,execOp,Act.eval]) (by simp [toldSeat,Seat.one])
theorem cn_sits (o:OpD)(l:List OpD)(ho:o∈l)(B:Nat)(hB:∀ o∈l,o.bo<B)(cs:List Frame):Sits Tryd.prog true (KO l) (SP l Br.no) B (toldSeat o.to false (cnRecv o cs)) 7 (cnPast o cs):=by
 have hw:=cn_at o l B cs
 refine .inl ⟨6,default,rfl,?_⟩
 unfold cnPast
 unfold cnRecv at *
 simp only [Tryd.f44] at *
 refine Goes.step rfl (fun w₁ h₁=>?_);rw [stepG_region_end];simp only [goes_go];refine ⟨ds_none _,?_⟩;clear h₁
 refine Goes.step rfl (fun w₁ h₁=>?_);rw [stepG_region];simp only [goes_go,List.size_toArray,List.length_cons,List.length_nil,Nat.reduceAdd,Nat.zero_add,List.range,List.range.loop];refine ⟨ds_none _,?_⟩;clear h₁
 refine Goes.step rfl (fun w₁ h₁=>?_)
 refine goes_oper_k rfl rfl (by decide) (fun K hK=>?_)
 go_simp
 refine hK _ _ ⟨⟨rfl,fun e he=>by (have hm:=mem_listed he;simp [go_sem] at hm)⟩,?_⟩
 clear hK K h₁
 refine Goes.step rfl (fun w₁ h₁=>?_)
 refine goes_oper_k rfl rfl (by decide) (fun K hK=>?_)
 go_simp
 refine hK _ _ ⟨⟨rfl,fun e he=>by (have hm:=mem_listed he;simp [go_sem] at hm)⟩,?_⟩
 clear hK K h₁
 refine Goes.step rfl (fun w₁ h₁=>?_)
 refine goes_oper_k rfl rfl (by decide) (fun K hK=>?_)
 go_simp
 refine hK _ _ ⟨⟨rfl,fun e he=>by (have hm:=mem_listed he;simp [go_sem] at hm)⟩,?_⟩
 clear hK K h₁
 refine Goes.step rfl (fun w₁ h₁=>?_)
 refine goes_oper_k rfl rfl (by decide) (fun K hK=>?_)
 have hf:=ko_cells h₁ ho
 have hf0:=hf.1;have hf1:=hf.2.1;have hf2:=hf.2.2.1;have hfz:=hf.2.2.2
 go_simp
 refine hK _ _ ⟨⟨rfl,fun e he=>by (have hm:=mem_listed he;simp [go_sem, *] at hm;subst hm;exact evC_read _ (.inl ⟨o,ho,1,by omega,rfl⟩) (hB o ho))⟩,?_⟩
 clear hK K hf hf0 hf1 hf2 hfz h₁
 exact Goes.stop fun w₁ h₁=>⟨_,hw⟩
noncomputable def cancelBody:Code:=(Tryd.f44.body).getD .skip
theorem cancel_enter (o:OpD):Frame.enter Tryd.prog 44 #[pO o] .normal=(base 44).at ⟨#[pO o,undef,undef,undef,undef,undef,undef,undef,undef,undef,undef],[]⟩ [.code cancelBody]:=by
 rw [enter_at (c:=cancelBody) _ Tryd.func44 rfl]
 refine congrArg (fun t=>(base 44).at ⟨t,[]⟩ [.code cancelBody]) ?_
 kernel_rfl
section
variable {kb:Kb} {l:List OpD} {K:Ker} {L:Nat→Option Lv} {r:Nat} {Inb:Nat→Option Seat} {nG:Nat} {w:World} {v:Lv} {Final:Machine→Trace→Prop}
theorem main_cancel (co:Co kb l K L r Inb nG w){j:Nat}(hv:L j=some v)(fr:Frame)(cs:List Frame)
  (hover:∀ w' Inb',Co kb l K (ConcN.upd L j none) r Inb' nG w'→Kp kb L w (ConcN.upd L j none) w'→X Tryd.prog Final l Inb' nG 0 (G (fr.finish (.tuple #[])) cs) w') :
  X Tryd.prog Final l Inb nG 0 (G (Frame.enter Tryd.prog 44 #[pO v.C.o] .normal) (fr::cs)) w:=by
 have hbo:v.C.o∈l:=by obtain ⟨f,n,A⟩:=co.at_ j v hv;exact A.mem
 have h2:=(ko_cells co.env.ko hbo).2.2.1
 have back:∀ w' Inb',Co kb l K (ConcN.upd L j none) r Inb' nG w'→Kp kb L w (ConcN.upd L j none) w'→X Tryd.prog Final l Inb' nG 0 (Go.Conc.served (cnRecv v.C.o (fr::cs)) (backRes v.C.o.to false false)) w':=by
  intro w Inb' co' hk
  have hover':=fun d=>hover (w.at d) Inb' (co'.at d) (fun k hM=>by obtain ⟨m1,m2⟩:=hk k hM;exact ⟨⟨m1.lt,m1.nf,m1.ns,m1.nd,m1.own⟩,m2⟩)
  rw [show backRes v.C.o.to false false=.agg #[] from by simp [backRes,commResult,rcase]]
  unfold cnRecv
  simp only [Tryd.f44,served_fr]
  rw [Frame.finish_at]
  refine Br.x_must (st:=true) ?_
  show Must Tryd.prog true (DL true (sfO l)) _ _ (w.at w.drawn)
  generalize w.drawn=dz
  have hc:=co'.env.fit.clear
  go_simp
  refine Br.liv_region_end (fun d=>?_) _
  refine Br.mc rfl (fun u=>stepG_end) (fun d=>?_) _
  exact Br.liv_leave (v:=.tuple #[]) rfl rfl Tryd.func44 (resultsC_none rfl _) (w:=w) (fun d=>.stop (hover' d)) _
 have shut:∀ d,X Tryd.prog Final l Inb nG 0 (cnShut v.C.o (fr::cs)) (w.at d):=fun d=>by
  refine co_cancel (co.at d) hv (a₂:=cnPast v.C.o (fr::cs)) (rec:=cnRecv v.C.o (fr::cs)) (nh:=7) (by unfold cnShut;simp only [Tryd.f44];rfl) (by unfold cnShut;simp only [Tryd.f44];rfl) (by unfold cnPast;simp only [Tryd.f44];rfl) (fun cap k hc d'=>cn_shut _ _ (w:=w.at d) hc d') (fun B hB=>cn_sits v.C.o l hbo B hB (fr::cs)) (fun w' Inb' h1 h3=>?_)
  exact back w' Inb' h1 (fun k hM=>h3 k ⟨hM.lt,hM.nf,hM.ns,hM.nd,hM.own⟩)
 clear back
 rw [cancel_enter]
 unfold cnShut at shut
 simp only [cancelBody,Tryd.f44,Option.getD_some,pO] at *
 refine Br.x_must (st:=true) ?_
 show Must Tryd.prog true (DL true (sfO l)) _ _ (w.at w.drawn)
 generalize w.drawn=dz
 have hc:=co.env.fit.clear
 refine Br.liv_seq (fun d=>?_) _
 refine Br.liv_region (fun d=>?_) _
 simp only [Br.rz,Br.ix,Nat.reduceAdd]
 refine Br.mo rfl rfl hc (fun d K' hK=>?_) _
 go_simp
 refine hK _ _ ⟨rfl,?_⟩
 clear hK K'
 refine Br.mo rfl rfl hc (fun d K' hK=>?_) _
 go_simp
 refine hK _ _ ⟨rfl,?_⟩
 clear hK K'
 refine Br.mo rfl rfl hc (fun d K' hK=>?_) _
 go_simp
 refine hK _ _ ⟨rfl,?_⟩
 clear hK K'
 refine Br.mo rfl rfl hc (fun d K' hK=>?_) _
 have e0:(w.at d).cell? ⟨v.C.o.bo,2,none⟩=some (.chan (some v.C.o.en)):=h2
 go_simp
 refine hK _ _ ⟨rfl,?_⟩
 clear hK K'
 exact .stop (shut _)
end
theorem ord_anyS {σ:Type}{ops:Array Oper}{J:σ→List Nat→Prop}{Ag:Array Bool→σ→Prop}
  (hstep:∀ f listed a i rest,i∈Region.ready .any ops listed→Ag listed a→Br.Ord ops f (listed.setIfInBounds i true) rest→(∀ a',Ag (listed.setIfInBounds i true) a'→J a' rest)→J a (i::rest))
  (hdone:∀ listed a,Region.ready .any ops listed=[]→Ag listed a→J a []) :
  ∀ fuel listed a rest,Br.Ord ops fuel listed rest→Ag listed a→J a rest:=by
 intro fuel
 induction fuel with
 | zero =>
  intro listed a rest hO hA
  rcases hO.next with ⟨rfl,h⟩|⟨f,i,rest',hi,rfl,hf,hO'⟩
  ·exact hdone listed a h hA
  ·cases hf
 | succ f ih =>
  intro listed a rest hO hA
  rcases hO.next with ⟨rfl,h⟩|⟨f',i,rest',hi,rfl,hf,hO'⟩
  ·exact hdone listed a h hA
  ·obtain rfl:f=f':=by omega
   exact hstep f listed a i rest' hi hA hO' (fun a' hA'=>ih _ a' rest' hO' hA')
theorem set_else {listed:Array Bool}{i j:Nat}(e:i≠j):(listed.setIfInBounds i true).getD j false=listed.getD j false:=by
 rw [Array.getD_eq_getD_getElem?,Array.getD_eq_getD_getElem?,Array.getElem?_setIfInBounds,if_neg e]
theorem ready_false {ops:Array Oper}{listed:Array Bool}{i:Nat}(h:i∈Region.ready .any ops listed):listed.getD i false=false:=by
 cases e:listed.getD i false with
 | false=>rfl
 | true=>exact (Br.ready_no h e).elim
noncomputable def begOps:Array Oper :=
 match Tryd.f41.body with
 | some (.seq _ (.seq (.region _ ops _) _))=>ops
 | _=>#[]
theorem beg_one:Br.oneDst begOps=true:=by kernel_rfl
def recV (bk:Nat)(p kd A B:Int)(c:Nat→Nat):Array Value:=#[.chan (some (c 0)),.chan (some (c 1)),.chan (some (c 2)),.pointer (some ⟨bk,0,none⟩),.int .i64 p,.int .i64 kd,.int .i64 A,.int .i64 B,.int .i64 0,.int .i64 0,.slice none 0 0,.bool false,.bool false]
def begV (bk:Nat)(p kd A B:Int)(c:Nat→Nat)(bo:Nat):Nat→Value
 | 0=>.chan (some (c 0))|1=>.chan (some (c 1))|2=>.chan (some (c 2))|3=>.pointer (some ⟨bk,0,none⟩)|4=>.int .i64 p|5=>.agg #[.int .i64 kd,.int .i64 A,.int .i64 B]
 | 6=>.agg #[.int .i64 kd,.int .i64 A,.int .i64 B,.int .i64 0,.int .i64 0]|7=>.agg (recV bk p kd A B c)|8=>.pointer (some ⟨bo,0,none⟩)|9=>.pointer (some ⟨bo,0,none⟩)|_=>undef
def cnt (listed:Array Bool):Nat:=(if listed.getD 0 false then 1 else 0)+(if listed.getD 1 false then 1 else 0)+(if listed.getD 2 false then 1 else 0)
theorem mk_chan (w:World):(Instr.makeChan 108 (.int .i64 0)).run Tryd.prog w=.ok (.chan (some w.heap.size)) (w.alloc (.chan 0 #[] false 0 0 false)):=by
 have h:(Tryd.prog.info? 115).map (·.bytes)=some 0:=by kernel_rfl
 obtain ⟨i,hi,hb⟩:=Option.map_eq_some_iff.1 h
 exact run_makeChan (P:=Tryd.prog) (w:=w) Tryd.underlying108 hi .i64 0 (by omega) (by omega)
theorem mk_chan_e (w:World)(es:Array Event):(Instr.makeChan 108 (.int .i64 0)).events Tryd.prog w es=es:=by
 have h:(Tryd.prog.info? 115).map (·.bytes)=some 0:=by kernel_rfl
 obtain ⟨i,hi,hb⟩:=Option.map_eq_some_iff.1 h
 exact events_makeChan (P:=Tryd.prog) (w:=w) Tryd.underlying108 hi .i64 0 (by omega) (by omega) es
section
variable {kb:Kb} {l:List OpD} {st:Bool} {Stop:Goroutine→World→Prop} {W:World} {bk bx bo:Nat} {p kd A B:Int} {tb:Array Value}
theorem must_pure {ops:Array Oper}{i:Nat}{o:Oper}{a:Act}{b:Frame}{rest:List Nat}{k:List Item}{cs:List Frame}{main:Bool}{sft:Nat→Nat}{w:World}{v:Value}(ho:ops[i]?=some o)(hg:o.guard=none)(hk:b.kind≠.early)(hop:Br.okOp Tryd.prog (fun _=>false) [] false o.op=true)(hc:Clear w)
  (hv:∀ d,(execOp a.eval o).run Tryd.prog (w.at d)=.ok (.value v) (w.at d))(hn:∀ d,Must Tryd.prog main (DL st sft) Stop (G (b.at (a.put o.dst v) (.inRegion ops rest::k)) cs) (w.at d))(d0:Nat) :
  Must Tryd.prog main (DL st sft) Stop (G (b.at a (.inRegion ops (i::rest)::k)) cs) (w.at d0) :=
 Br.must_oper ho (by unfold Region.wanted;rw [hg]) hk hop hc (fun d K' hK=>by rw [hv d];exact hK _ _ ⟨rfl,hn d⟩) d0
theorem beg_ph2 (h19:tb.size=19){c:Nat→Nat}{w:World}(hc:Clear w)(k:List Item)(cs:List Frame)
  (hfin:∀ d,Must Tryd.prog true (DL st (sfO l)) Stop (G ((base 41).at ⟨Br.fill begOps (begV bk p kd A B c bo) tb,[]⟩ (.inRegion begOps [] :: k)) cs) (w.at d)) :
  ∀ fuel listed a rest,Br.Ord begOps fuel listed rest→(Br.Agr begOps (begV bk p kd A B c bo) tb listed a∧∀ j,j≤8→listed.getD j false=true)→∀ d,Must Tryd.prog true (DL st (sfO l)) Stop (G ((base 41).at a (.inRegion begOps rest::k)) cs) (w.at d):=by
 refine Br.ord_any (J:=fun a rest=>∀ d,Must Tryd.prog true (DL st (sfO l)) Stop (G ((base 41).at a (.inRegion begOps rest::k)) cs) (w.at d)) (fun f listed a q rest hi hA2 hO hIH=>?_) (fun listed a hr hA2=>?_)
 ·obtain ⟨hA,hL⟩:=hA2
  have hlt:=Br.ready_lt hi
  have hz:begOps.size=10:=by kernel_rfl
  rw [hz] at hlt
  have hcs:q=0∨q=1∨q=2∨q=3∨q=4∨q=5∨q=6∨q=7∨q=8∨q=9:=by omega
  rcases hcs with rfl|rfl|rfl|rfl|rfl|rfl|rfl|rfl|rfl|rfl
  ·exact (Br.ready_no hi (hL 0 (by omega))).elim
  ·exact (Br.ready_no hi (hL 1 (by omega))).elim
  ·exact (Br.ready_no hi (hL 2 (by omega))).elim
  ·exact (Br.ready_no hi (hL 3 (by omega))).elim
  ·exact (Br.ready_no hi (hL 4 (by omega))).elim
  ·exact (Br.ready_no hi (hL 5 (by omega))).elim
  ·exact (Br.ready_no hi (hL 6 (by omega))).elim
  ·exact (Br.ready_no hi (hL 7 (by omega))).elim
  ·exact (Br.ready_no hi (hL 8 (by omega))).elim
  ·obtain ⟨o,ho,hop,hg⟩:∃ o,begOps[9]?=some o∧o.op=.assign (.tmp 16)∧o.guard=none:=⟨_,rfl,rfl,rfl⟩
   have e16:a.eval (.tmp 16)=.pointer (some ⟨bo,0,none⟩):=hA.tmp (j:=8) rfl rfl (hL 8 (by omega)) (by omega) rfl
   exact must_pure ho hg (by decide) (by rw [hop];rfl) hc (fun d=>run_assign hop e16) (hIH _ ⟨hA.put beg_one ho rfl,fun j hj=>Br.set_on (hL j hj)⟩)
 ·obtain ⟨hA,hL⟩:=hA2
  obtain rfl:=hA.full (Br.all_listed (by kernel_rfl) hA.len hr)
  exact hfin
structure Chs (W w:World) (c:Nat→Nat) (on:Nat→Prop):Prop where
 is:∀ i,i<3→on i→W.heap.size≤c i∧c i<w.heap.size∧w.heap[c i]?=some (.chan 0 #[] false 0 0 false)
 ne:∀ i j,i<3→j<3→i≠j→on i→on j→c i≠c j
theorem Chs.add {W w:World}{c:Nat→Nat}{on on':Nat→Prop}(h:Chs W w c on)(hW:W.heap.size≤w.heap.size){i:Nat}(hon:∀ q,on' q→q=i∨on q):Chs W (w.alloc (.chan 0 #[] false 0 0 false)) (fun q=>if q=i then w.heap.size else c q) on':=by
 refine ⟨fun q hq h1=>?_,fun q q' hq hq' hne h1 h2=>?_⟩
 ·by_cases e:q=i
  ·simp only [e,if_true]
   exact ⟨hW,by simp,heap_alloc_new w _⟩
  ·simp only [e,if_false]
   obtain ⟨a1,a2,a3⟩:=h.is q hq ((hon q h1).resolve_left e)
   exact ⟨a1,by simp;omega,by rw [Below.heap_alloc w _ _ a2];exact a3⟩
 ·by_cases e:q=i
  ·by_cases e':q'=i
   ·exact absurd (e.trans e'.symm) hne
   ·simp only [e,e',if_true,if_false]
    have:=(h.is q' hq' ((hon q' h2).resolve_left e')).2.1
    omega
  ·by_cases e':q'=i
   ·simp only [e,e',if_true,if_false]
    have:=(h.is q hq ((hon q h1).resolve_left e)).2.1
    omega
   ·simp only [e,e',if_false]
    exact h.ne q q' hq hq' hne ((hon q h1).resolve_left e) ((hon q' h2).resolve_left e')
theorem Chs.grow {W w w':World}{c:Nat→Nat}{on:Nat→Prop}(h:Chs W w c on)(hg:Grown w w'):Chs W w' c on :=
 ⟨fun i hi ho=>by obtain ⟨a1,a2,a3⟩:=h.is i hi ho;exact ⟨a1,Nat.lt_of_lt_of_le a2 hg.size,by rw [hg.old _ a2];exact a3⟩,h.ne⟩
theorem run_mk {o:Oper}{a:Act}{w:World}(hop:o.op=.makeChan 108 (.const (.int .i64 0))):(execOp a.eval o).run Tryd.prog w=.ok (.value (.chan (some w.heap.size))) (w.alloc (.chan 0 #[] false 0 0 false))∧(execOp a.eval o).events Tryd.prog w #[]=#[]:=by
 unfold execOp
 simp only [hop]
 constructor
 ·simp [Act.eval,mk_chan]
 ·simp [Act.eval,mk_chan,mk_chan_e]
theorem must_made {ops:Array Oper}{i:Nat}{o:Oper}{a:Act}{b:Frame}{rest:List Nat}{k:List Item}{cs:List Frame}{main:Bool}{sft:Nat→Nat}{w:World}{v:Value}{ob:Obj}(ho:ops[i]?=some o)(hg:o.guard=none)(hk:b.kind≠.early)
  (hv:∀ d,(execOp a.eval o).run Tryd.prog (w.at d)=.ok (.value v) ((w.at d).alloc ob))(he:∀ d,(execOp a.eval o).events Tryd.prog (w.at d) #[]=#[])(hn:∀ d,Must Tryd.prog main (DL st sft) Stop (G (b.at (a.put o.dst v) (.inRegion ops rest::k)) cs) ((w.alloc ob).at d))(d0:Nat)(hsg:Br.Obj.sight ob:=by trivial) :
  Must Tryd.prog main (DL st sft) Stop (G (b.at a (.inRegion ops (i::rest)::k)) cs) (w.at d0) :=
 Br.must_operW ho (by unfold Region.wanted;rw [hg]) hk (fun d K' hK=>by
  rw [hv d]
  exact hK _ _ ⟨Br.dl_alloc (fun e h=>by rw [listed_none (he d)] at h;simp at h) hsg,hn d⟩) d0
theorem grown_alloc {w:World}(hc:Clear w){ob:Obj}(hs:Br.Obj.sight ob):Grown w (w.alloc ob):=⟨by simp,fun k hk=>Below.heap_alloc w ob k hk,(Br.lk_new hc.lk (o:=ob) hs).1.sight⟩
theorem beg_ph1 (h19:tb.size=19)(hbo:bo=W.heap.size+3)(b0:tb[0]?=some (.pointer (some ⟨bk,0,none⟩)))(b1:tb[1]?=some (.int .i64 p))(b5:tb[5]?=some (.pointer (some ⟨bx,0,none⟩)))(hbx:bx<W.heap.size)(x0:W.cell? ⟨bx,0,none⟩=some (.int .i64 kd))(x1:W.cell? ⟨bx,1,none⟩=some (.int .i64 A))(x2:W.cell? ⟨bx,2,none⟩=some (.int .i64 B))(k:List Item)(cs:List Frame)
  (hfin:∀ c w,Grown W w→w.heap.size=W.heap.size+4→Chs W w c (fun _=>True)→w.heap[bo]?=some (.cells (recV bk p kd A B c) 111 (0,0))→∀ d,Must Tryd.prog true (DL st (sfO l)) Stop (G ((base 41).at ⟨Br.fill begOps (begV bk p kd A B c bo) tb,[]⟩ (.inRegion begOps [] :: k)) cs) (w.at d)) :
  ∀ fuel listed (aw:Act × World) rest,Br.Ord begOps fuel listed rest→(∃ c,Br.Agr begOps (begV bk p kd A B c bo) tb listed aw.1∧Grown W aw.2∧aw.2.heap.size=W.heap.size+cnt listed∧Chs W aw.2 c (fun i=>listed.getD i false=true)∧(listed.getD 6 false=true→listed.getD 5 false=true)∧(listed.getD 7 false=true→∀ j,j≤6→listed.getD j false=true)∧∀ j,8≤j→listed.getD j false=false) →
   ∀ d,Must Tryd.prog true (DL st (sfO l)) Stop (G ((base 41).at aw.1 (.inRegion begOps rest::k)) cs) (aw.2.at d):=by
 refine ord_anyS (J:=fun (aw:Act × World) rest=>∀ d,Must Tryd.prog true (DL st (sfO l)) Stop (G ((base 41).at aw.1 (.inRegion begOps rest::k)) cs) (aw.2.at d)) (fun f0 listed aw q rest hi hA2 hO hIH=>?_) (fun listed aw hr hA2=>?_)
 ·obtain ⟨a,w⟩:=aw
  obtain ⟨c,hA,hG,hsz,hch,h65,h7,h8⟩:=hA2
  simp only at hA hG hsz hch
  have y0:w.cell? ⟨bx,0,none⟩=some (.int .i64 kd):=(World.cell?_of_block (w:=W) (hG.old bx hbx)).trans x0
  have y1:w.cell? ⟨bx,1,none⟩=some (.int .i64 A):=(World.cell?_of_block (w:=W) (hG.old bx hbx)).trans x1
  have y2:w.cell? ⟨bx,2,none⟩=some (.int .i64 B):=(World.cell?_of_block (w:=W) (hG.old bx hbx)).trans x2
  have keep:∀ q,3≤q→q≤7→(q=6→listed.getD 5 false=true)→(q=7→∀ j,j≤6→listed.getD j false=true)→∀ a',Br.Agr begOps (begV bk p kd A B c bo) tb (listed.setIfInBounds q true) a'→(∃ c,Br.Agr begOps (begV bk p kd A B c bo) tb (listed.setIfInBounds q true) (a',w).1∧Grown W (a',w).2∧(a',w).2.heap.size=W.heap.size+cnt (listed.setIfInBounds q true)∧Chs W (a',w).2 c (fun i=>(listed.setIfInBounds q true).getD i false=true)∧((listed.setIfInBounds q true).getD 6 false=true→(listed.setIfInBounds q true).getD 5 false=true)∧((listed.setIfInBounds q true).getD 7 false=true→∀ j,j≤6→(listed.setIfInBounds q true).getD j false=true)∧∀ j,8≤j→(listed.setIfInBounds q true).getD j false=false):=fun q h3 h7' h6q h7q a' h=>by
   refine ⟨c,h,hG,?_,⟨fun i hi ho=>hch.is i hi (by rw [set_else (by omega)] at ho;exact ho),fun i j hi hj hne ho ho'=>hch.ne i j hi hj hne (by rw [set_else (by omega)] at ho;exact ho) (by rw [set_else (by omega)] at ho';exact ho')⟩,fun h6=>?_,fun h7'' j hj=>?_,fun j hj=>by rw [set_else (by omega)];exact h8 j hj⟩
   ·unfold cnt at hsz ⊢
    rw [set_else (show q≠0 by omega),set_else (show q≠1 by omega),set_else (show q≠2 by omega)]
    exact hsz
   ·by_cases e:q=6
    ·exact Br.set_on (h6q e)
    ·rw [set_else e] at h6;exact Br.set_on (h65 h6)
   ·by_cases e:q=7
    ·exact Br.set_on (h7q e j hj)
    ·rw [set_else e] at h7'';exact Br.set_on (h7 h7'' j hj)
  have hlt:=Br.ready_lt hi
  have hz:begOps.size=10:=by kernel_rfl
  rw [hz] at hlt
  have hcs:q=0∨q=1∨q=2∨q=3∨q=4∨q=5∨q=6∨q=7∨q=8∨q=9:=by omega
  rcases hcs with rfl|rfl|rfl|rfl|rfl|rfl|rfl|rfl|rfl|rfl
  ·have hi2:=ready_false hi
   have hcn:cnt (listed.setIfInBounds 0 true)=cnt listed+1:=by
    have hn:=Br.set_now hi
    unfold cnt
    simp only [hn,hi2,set_else (show 0≠1 by omega),set_else (show 0≠2 by omega)]
    simp only [if_true,if_false,Bool.false_eq_true]
    try omega
   have hoff7:listed.getD 7 false=false:=by
    cases e:listed.getD 7 false with
    | false=>rfl
    | true=>rw [h7 e 0 (by omega)] at hi2;cases hi2
   obtain ⟨o,ho,hop,hg⟩:∃ o,begOps[0]?=some o∧o.op=.makeChan 108 (.const (.int .i64 0))∧o.guard=none:=⟨_,rfl,rfl,rfl⟩
   have hG2:=grown_alloc hG.clear (ob:=.chan 0 #[] false 0 0 false) trivial
   have hA2:=(hA.val (V':=begV bk p kd A B (fun q=>if q=0 then w.heap.size else c q) bo) (fun q hq=>by
    have hq8:q<8:=by
     rcases Nat.lt_or_ge q 8 with h|h
     ·exact h
     ·rw [h8 q h] at hq;cases hq
    have hcs:q=0∨q=1∨q=2∨q=3∨q=4∨q=5∨q=6∨q=7:=by omega
    rcases hcs with rfl|rfl|rfl|rfl|rfl|rfl|rfl|rfl<;>first|rfl|(rw [hi2] at hq;cases hq)|(rw [hoff7] at hq;cases hq))).put beg_one ho (v:=.chan (some w.heap.size)) (by simp [begV])
   exact fun d=>must_made ho hg (by decide) (fun d=>(run_mk hop).1) (fun d=>(run_mk hop).2) (fun d=>hIH (_,w.alloc (.chan 0 #[] false 0 0 false)) ⟨_,hA2,hG.trans hG2,by rw [hcn];simp;omega,hch.add hG.size (fun q hq=>by
    by_cases e:q=0
    ·exact .inl e
    ·rw [set_else (Ne.symm e)] at hq;exact .inr hq),fun h=>(by rw [set_else (by omega)] at h ⊢;exact h65 h),fun h=>(by rw [set_else (by omega),hoff7] at h;cases h),fun q hq=>by rw [set_else (by omega)];exact h8 q hq⟩ d) d
  ·have hi2:=ready_false hi
   have hcn:cnt (listed.setIfInBounds 1 true)=cnt listed+1:=by
    have hn:=Br.set_now hi
    unfold cnt
    simp only [hn,hi2,set_else (show 1≠2 by omega),set_else (show 1≠0 by omega)]
    simp only [if_true,if_false,Bool.false_eq_true]
    try omega
   have hoff7:listed.getD 7 false=false:=by
    cases e:listed.getD 7 false with
    | false=>rfl
    | true=>rw [h7 e 1 (by omega)] at hi2;cases hi2
   obtain ⟨o,ho,hop,hg⟩:∃ o,begOps[1]?=some o∧o.op=.makeChan 108 (.const (.int .i64 0))∧o.guard=none:=⟨_,rfl,rfl,rfl⟩
   have hG2:=grown_alloc hG.clear (ob:=.chan 0 #[] false 0 0 false) trivial
   have hA2:=(hA.val (V':=begV bk p kd A B (fun q=>if q=1 then w.heap.size else c q) bo) (fun q hq=>by
    have hq8:q<8:=by
     rcases Nat.lt_or_ge q 8 with h|h
     ·exact h
     ·rw [h8 q h] at hq;cases hq
    have hcs:q=0∨q=1∨q=2∨q=3∨q=4∨q=5∨q=6∨q=7:=by omega
    rcases hcs with rfl|rfl|rfl|rfl|rfl|rfl|rfl|rfl<;>first|rfl|(rw [hi2] at hq;cases hq)|(rw [hoff7] at hq;cases hq))).put beg_one ho (v:=.chan (some w.heap.size)) (by simp [begV])
   exact fun d=>must_made ho hg (by decide) (fun d=>(run_mk hop).1) (fun d=>(run_mk hop).2) (fun d=>hIH (_,w.alloc (.chan 0 #[] false 0 0 false)) ⟨_,hA2,hG.trans hG2,by rw [hcn];simp;omega,hch.add hG.size (fun q hq=>by
    by_cases e:q=1
    ·exact .inl e
    ·rw [set_else (Ne.symm e)] at hq;exact .inr hq),fun h=>(by rw [set_else (by omega)] at h ⊢;exact h65 h),fun h=>(by rw [set_else (by omega),hoff7] at h;cases h),fun q hq=>by rw [set_else (by omega)];exact h8 q hq⟩ d) d
  ·have hi2:=ready_false hi
   have hcn:cnt (listed.setIfInBounds 2 true)=cnt listed+1:=by
    have hn:=Br.set_now hi
    unfold cnt
    simp only [hn,hi2,set_else (show 2≠0 by omega),set_else (show 2≠1 by omega)]
    simp only [if_true,if_false,Bool.false_eq_true]
    try omega
   have hoff7:listed.getD 7 false=false:=by
    cases e:listed.getD 7 false with
    | false=>rfl
    | true=>rw [h7 e 2 (by omega)] at hi2;cases hi2
   obtain ⟨o,ho,hop,hg⟩:∃ o,begOps[2]?=some o∧o.op=.makeChan 108 (.const (.int .i64 0))∧o.guard=none:=⟨_,rfl,rfl,rfl⟩
   have hG2:=grown_alloc hG.clear (ob:=.chan 0 #[] false 0 0 false) trivial
   have hA2:=(hA.val (V':=begV bk p kd A B (fun q=>if q=2 then w.heap.size else c q) bo) (fun q hq=>by
    have hq8:q<8:=by
     rcases Nat.lt_or_ge q 8 with h|h
     ·exact h
     ·rw [h8 q h] at hq;cases hq
    have hcs:q=0∨q=1∨q=2∨q=3∨q=4∨q=5∨q=6∨q=7:=by omega
    rcases hcs with rfl|rfl|rfl|rfl|rfl|rfl|rfl|rfl<;>first|rfl|(rw [hi2] at hq;cases hq)|(rw [hoff7] at hq;cases hq))).put beg_one ho (v:=.chan (some w.heap.size)) (by simp [begV])
   exact fun d=>must_made ho hg (by decide) (fun d=>(run_mk hop).1) (fun d=>(run_mk hop).2) (fun d=>hIH (_,w.alloc (.chan 0 #[] false 0 0 false)) ⟨_,hA2,hG.trans hG2,by rw [hcn];simp;omega,hch.add hG.size (fun q hq=>by
    by_cases e:q=2
    ·exact .inl e
    ·rw [set_else (Ne.symm e)] at hq;exact .inr hq),fun h=>(by rw [set_else (by omega)] at h ⊢;exact h65 h),fun h=>(by rw [set_else (by omega),hoff7] at h;cases h),fun q hq=>by rw [set_else (by omega)];exact h8 q hq⟩ d) d
  ·obtain ⟨o,ho,hop,hg⟩:∃ o,begOps[3]?=some o∧o.op=.move (.tmp 0)∧o.guard=none:=⟨_,rfl,rfl,rfl⟩
   have e0:a.eval (.tmp 0)=.pointer (some ⟨bk,0,none⟩):=hA.base (by kernel_rfl) b0
   exact fun d=>must_pure ho hg (by decide) (by rw [hop];rfl) hG.clear (v:=.pointer (some ⟨bk,0,none⟩)) (fun d=>run_move hop e0) (fun d=>hIH (_,w) (keep 3 (by omega) (by omega) (fun e=>by omega) (fun e=>by omega) _ (hA.put beg_one ho rfl)) d) d
  ·obtain ⟨o,ho,hop,hg⟩:∃ o,begOps[4]?=some o∧o.op=.move (.tmp 1)∧o.guard=none:=⟨_,rfl,rfl,rfl⟩
   have e1:a.eval (.tmp 1)=.int .i64 p:=hA.base (by kernel_rfl) b1
   exact fun d=>must_pure ho hg (by decide) (by rw [hop];rfl) hG.clear (v:=.int .i64 p) (fun d=>run_move hop e1) (fun d=>hIH (_,w) (keep 4 (by omega) (by omega) (fun e=>by omega) (fun e=>by omega) _ (hA.put beg_one ho rfl)) d) d
  ·obtain ⟨o,ho,hop,hg⟩:∃ o,begOps[5]?=some o∧o.op=.load 38 (.tmp 5)∧o.guard=none:=⟨_,rfl,rfl,rfl⟩
   have e5:a.eval (.tmp 5)=.pointer (some ⟨bx,0,none⟩):=hA.base (by kernel_rfl) b5
   exact fun d=>must_pure ho hg (by decide) (by rw [hop];rfl) hG.clear (v:=.agg #[.int .i64 kd,.int .i64 A,.int .i64 B]) (fun d=>by have z0:(w.at d).cell? ⟨bx,0,none⟩=_:=y0;have z1:(w.at d).cell? ⟨bx,1,none⟩=_:=y1;have z2:(w.at d).cell? ⟨bx,2,none⟩=_:=y2;unfold execOp;simp only [hop,e5];go_simp) (fun d=>hIH (_,w) (keep 5 (by omega) (by omega) (fun e=>by omega) (fun e=>by omega) _ (hA.put beg_one ho rfl)) d) d
  ·obtain ⟨o,ho,hop,hg⟩:∃ o,begOps[6]?=some o∧o.op=.build 70 #[(0,.tmp 13)]∧o.guard=none:=⟨_,rfl,rfl,rfl⟩
   have e13:a.eval (.tmp 13)=.agg #[.int .i64 kd,.int .i64 A,.int .i64 B]:=hA.tmp (j:=5) rfl rfl (Br.ready_after hi rfl (by kernel_rfl)) (by omega) rfl
   exact fun d=>must_pure ho hg (by decide) (by rw [hop];rfl) hG.clear (v:=.agg #[.int .i64 kd,.int .i64 A,.int .i64 B,.int .i64 0,.int .i64 0]) (fun d=>by unfold execOp;simp only [hop,List.map_toArray,List.map_cons,List.map_nil,e13];go_simp) (fun d=>hIH (_,w) (keep 6 (by omega) (by omega) (fun _=>Br.ready_after hi rfl (by kernel_rfl)) (fun e=>by omega) _ (hA.put beg_one ho rfl)) d) d
  ·obtain ⟨o,ho,hop,hg⟩:∃ o,begOps[7]?=some o∧o.op=.build 111 #[(0,.tmp 8),(1,.tmp 9),(2,.tmp 10),(3,.tmp 11),(4,.tmp 12),(5,.tmp 14)]∧o.guard=none:=⟨_,rfl,rfl,rfl⟩
   have e8:a.eval (.tmp 8)=.chan (some (c 0)):=hA.tmp (j:=0) rfl rfl (Br.ready_after hi rfl (by kernel_rfl)) (by omega) rfl
   have e9:a.eval (.tmp 9)=.chan (some (c 1)):=hA.tmp (j:=1) rfl rfl (Br.ready_after hi rfl (by kernel_rfl)) (by omega) rfl
   have e10:a.eval (.tmp 10)=.chan (some (c 2)):=hA.tmp (j:=2) rfl rfl (Br.ready_after hi rfl (by kernel_rfl)) (by omega) rfl
   have e11:a.eval (.tmp 11)=.pointer (some ⟨bk,0,none⟩):=hA.tmp (j:=3) rfl rfl (Br.ready_after hi rfl (by kernel_rfl)) (by omega) rfl
   have e12:a.eval (.tmp 12)=.int .i64 p:=hA.tmp (j:=4) rfl rfl (Br.ready_after hi rfl (by kernel_rfl)) (by omega) rfl
   have e14:a.eval (.tmp 14)=.agg #[.int .i64 kd,.int .i64 A,.int .i64 B,.int .i64 0,.int .i64 0]:=hA.tmp (j:=6) rfl rfl (Br.ready_after hi rfl (by kernel_rfl)) (by omega) rfl
   have l6:listed.getD 6 false=true:=Br.ready_after hi rfl (by kernel_rfl)
   have l0:listed.getD 0 false=true:=Br.ready_after hi rfl (by kernel_rfl)
   have l1:listed.getD 1 false=true:=Br.ready_after hi rfl (by kernel_rfl)
   have l2:listed.getD 2 false=true:=Br.ready_after hi rfl (by kernel_rfl)
   have l3:listed.getD 3 false=true:=Br.ready_after hi rfl (by kernel_rfl)
   have l4:listed.getD 4 false=true:=Br.ready_after hi rfl (by kernel_rfl)
   have l5:=h65 l6
   have lall:∀ j,j≤6→listed.getD j false=true:=fun j hj=>by (have hcs:j=0∨j=1∨j=2∨j=3∨j=4∨j=5∨j=6:=by omega);rcases hcs with rfl|rfl|rfl|rfl|rfl|rfl|rfl<;>assumption
   exact fun d=>must_pure ho hg (by decide) (by rw [hop];rfl) hG.clear (v:=.agg (recV bk p kd A B c)) (fun d=>by unfold execOp;simp only [hop,List.map_toArray,List.map_cons,List.map_nil,e8,e9,e10,e11,e12,e14];go_simp;rfl) (fun d=>hIH (_,w) (keep 7 (by omega) (by omega) (fun e=>by omega) (fun _=>lall) _ (hA.put beg_one ho rfl)) d) d
  ·obtain ⟨o,ho,hop,hg⟩:∃ o,begOps[8]?=some o∧o.op=.box 111 (.tmp 15)∧o.guard=none:=⟨_,rfl,rfl,rfl⟩
   have l7:listed.getD 7 false=true:=Br.ready_after hi rfl (by kernel_rfl)
   have lall:=h7 l7
   have e15:a.eval (.tmp 15)=.agg (recV bk p kd A B c):=hA.tmp (j:=7) rfl rfl l7 (by omega) rfl
   have hs3:w.heap.size=bo:=by
    rw [hsz,hbo];unfold cnt
    rw [lall 0 (by omega),lall 1 (by omega),lall 2 (by omega)];rfl
   have hG2:=grown_alloc hG.clear (ob:=.cells (recV bk p kd A B c) 111 (0,0)) trivial
   have hrun:∀ d,(execOp a.eval o).run Tryd.prog (w.at d)=.ok (.value (.pointer (some ⟨bo,0,none⟩))) ((w.at d).alloc (.cells (recV bk p kd A B c) 111 (0,0)))∧(execOp a.eval o).events Tryd.prog (w.at d) #[]=#[]:=fun d=>by
    unfold execOp recV at *
    simp only [hop,e15]
    constructor
    ·go_simp
    ·simp [go_sem]
   have hA2:=hA.put beg_one ho (v:=.pointer (some ⟨bo,0,none⟩)) rfl
   refine fun d=>must_made ho hg (by decide) (fun d=>(hrun d).1) (fun d=>(hrun d).2) (fun d=>?_) d
   refine beg_ph2 h19 hG2.clear k cs (hfin c _ (hG.trans hG2) (by simp;omega) (⟨fun i hi _=>?_,fun i j hi hj hne _ _=>hch.ne i j hi hj hne (lall i (by omega)) (lall j (by omega))⟩) ?_) _ _ _ _ hO ⟨hA2,fun j hj=>?_⟩ d
   ·exact (hch.grow hG2).is i hi (lall i (by omega))
   ·rw [← hs3];exact heap_alloc_new w _
   ·have hcs:j≤6∨j=7∨j=8:=by omega
    rcases hcs with h|rfl|rfl
    ·exact Br.set_on (lall j h)
    ·exact Br.set_on l7
    ·exact Br.set_now hi
  ·exact (Br.ready_off hi rfl (j:=8) (h8 8 (by omega)) (by kernel_rfl)).elim
 ·obtain ⟨a,w⟩:=aw
  obtain ⟨c,hA,hG,hsz,hch,h65,h7,h8⟩:=hA2
  exact absurd (Br.all_listed (by kernel_rfl) hA.len hr 8 (by show 8<10;omega)) (by rw [h8 8 (by omega)];simp)
end
end Go.Proofs.YtcgabodkegcpgaaDoor
