/- wait. -/
import Derived.Test.YtcgabodkegcpgaaDoorOqg
set_option linter.unusedVariables false
set_option linter.unusedSimpArgs false
set_option maxHeartbeats 20000000
set_option maxRecDepth 100000
namespace Go.Proofs.YtcgabodkegcpgaaDoor
open Go.Conc Go.RowKit
open Br (OpD KO SO SP sfO Lk Fit Must DL Liv Clear)
attribute [local go_sem ↓] Go.wp_at_zero Go.wp_at_succ
section
variable {C:Ctx} {n:Nat} {s:Strat} {pv:List Nat} {H:Heap} {free:Value} {go:Bool}
noncomputable def waitR3:Code :=
 match Tryd.f80.body with
 | some (.seq _ (.seq (.seq _ (.block _ (.loop (.seq _ (.seq _ (.seq (.block _ (.seq r _)) _)))))) _))=>r
 | _=>.skip
noncomputable def waitR4:Code :=
 match Tryd.f80.body with
 | some (.seq _ (.seq (.seq _ (.block _ (.loop (.seq _ (.seq _ (.seq (.block _ (.seq _ (.seq r _))) _)))))) _))=>r
 | _=>.skip
noncomputable def waitOps:Array Oper :=
 match Tryd.f80.body with
 | some (.seq _ (.seq (.seq _ (.block _ (.loop (.seq _ (.seq _ (.seq (.block _ (.seq _ (.seq _ (.cond _ (.seq (.region _ ops _) _) _)))) _)))))) _))=>ops
 | _=>#[]
theorem wait_read {K0:Ker}{gF gS gD sb:Nat}(hK:K0.nS≤32)(hR:Row pv H gS 55 (K0.nS*20) (sCell K0)){i:Nat}(hi:i<K0.nS)(j6 j7 j12 j13 j14 j15 j16 j17 j18 j19 j20 j21 j22 j23 j24 j25 j26 j27 j37:Value)(v:World)(hv:∀ i∈pv,i<v.heap.size∧(Br.Obj.sight (H i)→v.heap[i]?=some (H i))) :
  waitR3.wp Tryd.prog (fun e a' v'=>e=.normal∧∃ bs Hn,Gain pv H v v' bs Hn∧∃ bx,bs=[bx]∧a'=⟨#[pO C.o,stVal K0 gF gS gD,undef,.pointer (some ⟨sb,0,none⟩),.int .i64 0,.int .i64 0,.int .i64 i,.pointer (some ⟨bx,0,none⟩),.pointer (some ⟨sb,1,none⟩),.slice (some ⟨gS,0,none⟩) K0.nS K0.nS,.int .i64 K0.nS,.int .i64 i,j12,.int .i64 i,.pointer (some ⟨gS,i*20,none⟩),.agg (cut (sCell K0) (i*20) 20).toArray,j16,j17,j18,j19,j20,j21,j22,j23,j24,j25,j26,j27,undef,undef,undef,undef,undef,undef,undef,undef,undef,j37,undef,undef],[]⟩∧Slt (Hn bx) K0 i) ⟨#[pO C.o,stVal K0 gF gS gD,undef,.pointer (some ⟨sb,0,none⟩),.int .i64 0,.int .i64 0,j6,j7,.pointer (some ⟨sb,1,none⟩),.slice (some ⟨gS,0,none⟩) K0.nS K0.nS,.int .i64 K0.nS,.int .i64 i,j12,j13,j14,j15,j16,j17,j18,j19,j20,j21,j22,j23,j24,j25,j26,j27,undef,undef,undef,undef,undef,undef,undef,undef,undef,j37,undef,undef],[]⟩ v:=by
 have hrow:=hR.is hv
 have hlt:∀ i∈pv,i<v.heap.size:=fun i hi=>(hv i hi).1
 obtain ⟨cs,hcs⟩:∃ cs,cs=cut (sCell K0) (i*20) 20:=⟨_,rfl⟩
 have ei:Hid ((Tryd.prog.info? 55).map (·.size)=some cs.length):=by unfold Hid;rw [hcs,cut_len];kernel_rfl
 have ei2:Hid ((Tryd.prog.info? 55).map (·.size)=some cs.toArray.size):=by unfold Hid;rw [List.size_toArray,hcs,cut_len];kernel_rfl
 have o1:Hid (cs.toArray.all (·.oneCell')=true):=by unfold Hid;rw [hcs];exact cut_one K0 _ _
 have z1:Hid (cs.toArray.size=20):=by unfold Hid;rw [List.size_toArray,hcs,cut_len]
 have LA:Hid (v.rangeAt gS (i*20) cs):=by unfold Hid;rw [hcs];exact rowIs_range hrow (o:=i*20) (m:=20) (by omega)
 rw [← hcs]
 have Hcs:Hid (cs=cut (sCell K0) (i*20) 20):=hcs
 clear hcs
 have b1:(0:Int)≤(i:Int):=by omega
 have b2:(i:Int)<(K0.nS:Int):=by omega
 have Hlt:Hid (∀ i∈pv,i<v.heap.size):=hlt
 clear hlt hrow hR hv
 unfold waitR3
 simp only [Tryd.f80]
 go_wp2_with (first|(refine wpList_load_mid rfl 55 _ rfl gS (i*20) rfl cs _ LA.out Tryd.underlying55 rfl ei.out ?_)|(refine wpList_store_any rfl 55 _ _ rfl _ 0 cs.toArray rfl rfl (by rw [z1.out];exact there_new1 _ _ _ _ (by rfl)) ei2.out o1.out ?_;intro W1 f1 f2 f3 f4))
 obtain ⟨X,hX,hS⟩:=slt_of (K:=K0) (i:=i) (b:=v.heap.size) (w:=W1) (by rw [← Hcs.out];exact f1)
 refine ⟨[v.heap.size],fun k=>if k=v.heap.size then X else H k,⟨?_,?_,?_,?_⟩,v.heap.size,rfl,rfl,by simpa using hS⟩
 ·rw [f3];simp
 ·intro k hk;rw [f2 k (by omega)];exact Below.heap_alloc _ _ _ hk
 ·intro b hb;obtain rfl:=List.mem_singleton.1 hb;exact ⟨Nat.le_refl _,by simpa using hX⟩
 ·intro i hi;have:=Hlt.out i hi;show (if i=v.heap.size then X else H i)=H i;rw [if_neg (by omega)]
theorem wait_look {K0:Ker}{gF gS gD sb bx i:Nat}(hbx:bx∈pv){c:Array Value}{t:TypeId}{f:Nat × Nat}(hX:H bx=.cells c t f)(hc:∀ j,j<20→c[j]?=some (sCell K0 (i*20+j)))(j12 j13 j14 j15 j16 j17 j18 j19 j20 j21 j22 j23 j24 j25 j26 j27 j37:Value)(v:World)(hv:∀ i∈pv,i<v.heap.size∧(Br.Obj.sight (H i)→v.heap[i]?=some (H i)))(hC:v.cell? ⟨C.o.bo,4,none⟩=some (.int .i64 C.slot)) :
  waitR4.wp Tryd.prog (fun e a' v'=>e=.normal∧∃ bs Hn,Gain pv H v v' bs Hn∧bs=[]∧∃ j12 j13 j14 j15 j16 j17 j18 j19 j20 j21 j22 j23 j24 j25 j26 j37:Value,a'=⟨#[pO C.o,stVal K0 gF gS gD,undef,.pointer (some ⟨sb,0,none⟩),.int .i64 0,.int .i64 0,.int .i64 i,.pointer (some ⟨bx,0,none⟩),.pointer (some ⟨sb,1,none⟩),.slice (some ⟨gS,0,none⟩) K0.nS K0.nS,.int .i64 K0.nS,.int .i64 i,j12,j13,j14,j15,j16,j17,j18,j19,j20,j21,j22,j23,j24,j25,j26,.bool (K0.S i 1 == C.slot && K0.S i 0 == 3),undef,undef,undef,undef,undef,undef,undef,undef,undef,j37,undef,undef],[]⟩) ⟨#[pO C.o,stVal K0 gF gS gD,undef,.pointer (some ⟨sb,0,none⟩),.int .i64 0,.int .i64 0,.int .i64 i,.pointer (some ⟨bx,0,none⟩),.pointer (some ⟨sb,1,none⟩),.slice (some ⟨gS,0,none⟩) K0.nS K0.nS,.int .i64 K0.nS,.int .i64 i,j12,j13,j14,j15,j16,j17,j18,j19,j20,j21,j22,j23,j24,j25,j26,j27,undef,undef,undef,undef,undef,undef,undef,undef,undef,j37,undef,undef],[]⟩ v:=by
 have c0:v.cell? ⟨bx,0,none⟩=some (.int .i64 (K0.S i 0)):=by
  simp only [World.cell?,(hv bx hbx).2 (by rw [hX];trivial),hX]
  have:=hc 0 (by omega)
  rw [sCell_num K0 i 0 (by omega) (by omega)] at this
  simpa using this
 have c1:v.cell? ⟨bx,1,none⟩=some (.int .i64 (K0.S i 1)):=by
  simp only [World.cell?,(hv bx hbx).2 (by rw [hX];trivial),hX]
  have:=hc 1 (by omega)
  rw [sCell_num K0 i 1 (by omega) (by omega)] at this
  simpa using this
 have hG:∀ v':World,v'.heap=v.heap→Gain pv H v v' [] H:=fun v' e=>⟨by rw [e];exact Nat.le_refl _,fun k _=>by rw [e],fun b hb=>(by cases hb),fun _ _=>rfl⟩
 have HG:Hid (∀ v':World,v'.heap=v.heap→Gain pv H v v' [] H):=hG
 clear hG hc hX hv hbx
 generalize K0.S i 0=x0 at *
 generalize K0.S i 1=x1 at *
 generalize hs:C.slot=sl at *
 unfold waitR4
 simp only [Tryd.f80,pO]
 by_cases he:x1=sl
 ·subst he
  go_quiet (fail)
  first|exact ⟨rfl,[],H,HG.out _ (by rfl),rfl,_,_,_,_,_,_,_,_,_,_,_,_,_,_,_,_,rfl⟩|(simp only [beq_self_eq_true,Bool.true_and];exact ⟨trivial,[],H,HG.out _ (by rfl),rfl,_,_,_,_,_,_,_,_,_,_,_,_,_,_,_,_,rfl⟩)
 ·have he':(x1 == sl)=false:=by simp [he]
  go_quiet (fail)
  first|exact ⟨rfl,[],H,HG.out _ (by rfl),rfl,_,_,_,_,_,_,_,_,_,_,_,_,_,_,_,_,rfl⟩|(simp only [he',Bool.false_and];exact ⟨trivial,[],H,HG.out _ (by rfl),rfl,_,_,_,_,_,_,_,_,_,_,_,_,_,_,_,_,rfl⟩)
end
section
variable {C:Ctx} {n:Nat} {s:Strat} {pv:List Nat} {H:Heap} {free:Value} {go:Bool}
def waitV (o:OpD)(i:Nat)(sv ps fs tu x e:Value):Nat→Value
 | 0=>pO o|1=>.int .i64 i|2=>sv|3=>ps|4=>sv|5=>fs|6=>tu|7=>x|8=>e|9=>x|10=>e|_=>undef
theorem good_ag {ops:Array Oper}{i:Nat}{o:Oper}{a:Act}{b:Frame}{rest:List Nat}{k:List Item}{cs:List Frame}{V:Nat→Value}{base:Array Value}{listed:Array Bool}{v:Value}(hA:Br.Agr ops V base listed a)(h1:Br.oneDst ops=true)(ho:ops[i]?=some o)(hg:o.guard=none)(hk:b.kind≠.early)(hop:Br.okOp Tryd.prog (fun _=>false) [] false o.op=true)
  (hV:V i=v)(hv:∀ l K un w d,Sta C l K pv H free un go w→(execOp a.eval o).run Tryd.prog (w.at d)=.ok (.value v) (w.at d))
  (hIH:∀ a',Br.Agr ops V base (listed.setIfInBounds i true) a'→Good' C n s pv H free go (G (b.at a' (.inRegion ops rest::k)) cs)):Good' C n s pv H free go (G (b.at a (.inRegion ops (i::rest)::k)) cs) :=
 good_pure ho hg hk hop hv (hIH _ (hA.put h1 ho hV))
theorem good_agrow {ops:Array Oper}{i:Nat}{o:Oper}{a:Act}{b:Frame}{rest:List Nat}{k:List Item}{cs:List Frame}{V:Nat→Value}{base:Array Value}{listed:Array Bool}{ty:TypeId}{x:Operand}{b0:Nat}{c:Array Value}{t:TypeId}{f:Nat × Nat}{ms:List Value}{d0:TypeDesc}(hA:Br.Agr ops V base listed a)(h1:Br.oneDst ops=true)(ho:ops[i]?=some o)(hg:o.guard=none)(hk:b.kind≠.early)(hop:o.op=.load ty x)
  (hx:a.eval x=.pointer (some ⟨b0,0,none⟩))(hb:b0∈pv)(hH:H b0=.cells c t f)(hms:∀ (j:Nat) (v:Value),ms[j]?=some v→c[j]?=some v)(hu:Tryd.prog.underlying ty=some d0)(hd:d0.isRow=true)(hi:(Tryd.prog.info? ty).map (·.size)=some ms.length)(hV:V i=.agg ms.toArray)
  (hIH:∀ a',Br.Agr ops V base (listed.setIfInBounds i true) a'→Good' C n s pv H free go (G (b.at a' (.inRegion ops rest::k)) cs)):Good' C n s pv H free go (G (b.at a (.inRegion ops (i::rest)::k)) cs) :=
 good_loadrow ho hg hk hop hx hb hH hms hu hd hi (hIH _ (hA.put h1 ho hV))
theorem wait_one:Br.oneDst waitOps=true:=by kernel_rfl
theorem run_move {P:Program}{o:Oper}{a:Act}{x:Operand}{v:Value}{w:World}(hop:o.op=.move x)(hx:a.eval x=v):(execOp a.eval o).run P w=.ok (.value v) w:=by
 unfold execOp;simp only [hop,hx];rfl
theorem run_assign {P:Program}{o:Oper}{a:Act}{x:Operand}{v:Value}{w:World}(hop:o.op=.assign x)(hx:a.eval x=v):(execOp a.eval o).run P w=.ok (.value v) w:=by
 unfold execOp;simp only [hop,hx];rfl
theorem run_extract {P:Program}{o:Oper}{a:Act}{x:Operand}{i:Nat}{vs:Array Value}{v:Value}{w:World}(hop:o.op=.extract x i)(hx:a.eval x=.tuple vs)(hv:vs[i]?=some v):(execOp a.eval o).run P w=.ok (.value v) w:=by
 unfold execOp;simp only [hop,hx,hv];go_simp
theorem wait_ph3 {bx i:Nat}{tb:Array Value}(h40:tb.size=40)(b0:tb[0]?=some (pO C.o))(b6:tb[6]?=some (.int .i64 i))(b7:tb[7]?=some (.pointer (some ⟨bx,0,none⟩)))(sv pv' fv:Value)(x e:Int)(fr:Frame)(cs:List Frame)(k0:List Item)(hn:Good' C n s pv H free go (G (fr.finish (.tuple #[.int .i64 x,.int .i64 e])) cs)) :
  ∀ fuel listed a rest,Br.Ord waitOps fuel listed rest→(Br.Agr waitOps (waitV C.o i sv pv' fv (.tuple #[.int .i64 x,.int .i64 e]) (.int .i64 x) (.int .i64 e)) tb listed a∧∀ j,j≤6→listed.getD j false=true)→Good' C n s pv H free go (G ((base 80).at a (.inRegion waitOps rest::.code .ret::k0)) (fr::cs)):=by
 refine Br.ord_any (fun f listed a q rest hi hA2 hO hIH=>?_) (fun listed a hr hA2=>?_)
 ·obtain ⟨hA,hL⟩:=hA2
  have hIH':∀ a',Br.Agr waitOps (waitV C.o i sv pv' fv (.tuple #[.int .i64 x,.int .i64 e]) (.int .i64 x) (.int .i64 e)) tb (listed.setIfInBounds q true) a'→Good' C n s pv H free go (G ((base 80).at a' (.inRegion waitOps rest::.code .ret::k0)) (fr::cs)):=fun a' h=>hIH a' ⟨h,fun j hj=>Br.set_on (hL j hj)⟩
  have hlt:=Br.ready_lt hi
  have hz:waitOps.size=11:=by kernel_rfl
  rw [hz] at hlt
  have hcs:q=0∨q=1∨q=2∨q=3∨q=4∨q=5∨q=6∨q=7∨q=8∨q=9∨q=10:=by omega
  rcases hcs with rfl|rfl|rfl|rfl|rfl|rfl|rfl|rfl|rfl|rfl|rfl
  ·exact (Br.ready_no hi (hL 0 (by omega))).elim
  ·exact (Br.ready_no hi (hL 1 (by omega))).elim
  ·exact (Br.ready_no hi (hL 2 (by omega))).elim
  ·exact (Br.ready_no hi (hL 3 (by omega))).elim
  ·exact (Br.ready_no hi (hL 4 (by omega))).elim
  ·exact (Br.ready_no hi (hL 5 (by omega))).elim
  ·exact (Br.ready_no hi (hL 6 (by omega))).elim
  ·obtain ⟨o,ho,hop,hg⟩:∃ o,waitOps[7]?=some o∧o.op=.extract (.tmp 34) 0∧o.guard=none:=⟨_,rfl,rfl,rfl⟩
   have e34:a.eval (.tmp 34)=.tuple #[.int .i64 x,.int .i64 e]:=hA.tmp (j:=6) rfl rfl (Br.ready_after hi rfl (by kernel_rfl)) (by omega) rfl
   exact good_ag hA wait_one ho hg (by decide) (by rw [hop];rfl) (v:=.int .i64 x) rfl (fun l K un w d St=>run_extract hop e34 rfl) hIH'
  ·obtain ⟨o,ho,hop,hg⟩:∃ o,waitOps[8]?=some o∧o.op=.extract (.tmp 34) 1∧o.guard=none:=⟨_,rfl,rfl,rfl⟩
   have e34:a.eval (.tmp 34)=.tuple #[.int .i64 x,.int .i64 e]:=hA.tmp (j:=6) rfl rfl (Br.ready_after hi rfl (by kernel_rfl)) (by omega) rfl
   exact good_ag hA wait_one ho hg (by decide) (by rw [hop];rfl) (v:=.int .i64 e) rfl (fun l K un w d St=>run_extract hop e34 rfl) hIH'
  ·obtain ⟨o,ho,hop,hg⟩:∃ o,waitOps[9]?=some o∧o.op=.assign (.tmp 35)∧o.guard=none:=⟨_,rfl,rfl,rfl⟩
   have e35:a.eval (.tmp 35)=.int .i64 x:=hA.tmp (j:=7) rfl rfl (Br.ready_after hi rfl (by kernel_rfl)) (by omega) rfl
   exact good_ag hA wait_one ho hg (by decide) (by rw [hop];rfl) (v:=.int .i64 x) rfl (fun l K un w d St=>run_assign hop e35) hIH'
  ·obtain ⟨o,ho,hop,hg⟩:∃ o,waitOps[10]?=some o∧o.op=.assign (.tmp 36)∧o.guard=none:=⟨_,rfl,rfl,rfl⟩
   have e36:a.eval (.tmp 36)=.int .i64 e:=hA.tmp (j:=8) rfl rfl (Br.ready_after hi rfl (by kernel_rfl)) (by omega) rfl
   exact good_ag hA wait_one ho hg (by decide) (by rw [hop];rfl) (v:=.int .i64 e) rfl (fun l K un w d St=>run_assign hop e36) hIH'
 ·obtain ⟨hA,hL⟩:=hA2
  have hall:=Br.all_listed (by kernel_rfl) hA.len hr
  have e4:a.eval (.tmp 4)=.int .i64 x:=hA.tmp (j:=9) rfl rfl (hall 9 (by show 9<11;omega)) (by omega) rfl
  have e5:a.eval (.tmp 5)=.int .i64 e:=hA.tmp (j:=10) rfl rfl (hall 10 (by show 10<11;omega)) (by omega) rfl
  have hres:ResultsC Tryd.prog Tryd.f80 a.tmps (.tuple #[.int .i64 x,.int .i64 e]):=by
   have:=resultsC_tmp2 (P:=Tryd.prog) (fn:=Tryd.f80) (t:=4) (u:=5) rfl a.tmps
   rwa [show a.tmps.getD 4 undef=.int .i64 x from e4,show a.tmps.getD 5 undef=.int .i64 e from e5] at this
  apply good_still
  ·intro l K un w Stop St hd d
   have hc:=St.clear
   refine Br.liv_region_end (fun d=>?_) _
   refine Br.liv_ret (fun d=>?_) _
   exact Br.liv_leave (v:=.tuple #[.int .i64 x,.int .i64 e]) rfl hA.defs Tryd.func80 hres hd _
   done
  exact hn
theorem wait_ph2 {bx i:Nat}{tb:Array Value}(h40:tb.size=40)(b0:tb[0]?=some (pO C.o))(b6:tb[6]?=some (.int .i64 i))(b7:tb[7]?=some (.pointer (some ⟨bx,0,none⟩))){K0:Ker}(ps fs:Sl)(hps:ps.ok pv H)(hfs:fs.ok pv H)(fr:Frame)(cs:List Frame)(k0:List Item)(k:Int × Int→Bool→Strat)
  (hs:s=(apartM i ps.xs fs.xs).then go k)(hn:∀ x e go' H',Good' C n (k (x,e) go') [] H' free go' (G (fr.finish (.tuple #[.int .i64 x,.int .i64 e])) cs)) :
  ∀ fuel listed a rest,Br.Ord waitOps fuel listed rest→(Br.Agr waitOps (waitV C.o i (.agg (slotV K0 i)) ps.val fs.val undef undef undef) tb listed a∧(∀ j,2≤j→j≤5→listed.getD j false=true)∧∀ j,6≤j→listed.getD j false=false)→Good' C n s pv H free go (G ((base 80).at a (.inRegion waitOps rest::.code .ret::k0)) (fr::cs)):=by
 refine Br.ord_any (fun f0 listed a q rest hi hA2 hO hIH=>?_) (fun listed a hr hA2=>?_)
 ·obtain ⟨hA,hL,hoff⟩:=hA2
  have hIH':q≤4→q≠3→∀ a',Br.Agr waitOps (waitV C.o i (.agg (slotV K0 i)) ps.val fs.val undef undef undef) tb (listed.setIfInBounds q true) a'→Good' C n s pv H free go (G ((base 80).at a' (.inRegion waitOps rest::.code .ret::k0)) (fr::cs)):=fun hq hq3 a' h=>hIH a' ⟨h,fun j h1 h2=>Br.set_on (hL j h1 h2),fun j hj=>Br.set_off (hoff j hj) (by omega)⟩
  have hlt:=Br.ready_lt hi
  have hz:waitOps.size=11:=by kernel_rfl
  rw [hz] at hlt
  have hcs:q=0∨q=1∨q=2∨q=3∨q=4∨q=5∨q=6∨q=7∨q=8∨q=9∨q=10:=by omega
  rcases hcs with rfl|rfl|rfl|rfl|rfl|rfl|rfl|rfl|rfl|rfl|rfl
  ·obtain ⟨o,ho,hop,hg⟩:∃ o,waitOps[0]?=some o∧o.op=.move (.tmp 0)∧o.guard=none:=⟨_,rfl,rfl,rfl⟩
   have e0:a.eval (.tmp 0)=pO C.o:=hA.base (by kernel_rfl) b0
   exact good_ag hA wait_one ho hg (by decide) (by rw [hop];rfl) (v:=pO C.o) rfl (fun l K un w d St=>run_move hop e0) (hIH' (by omega) (by omega))
  ·obtain ⟨o,ho,hop,hg⟩:∃ o,waitOps[1]?=some o∧o.op=.move (.tmp 6)∧o.guard=none:=⟨_,rfl,rfl,rfl⟩
   have e6:a.eval (.tmp 6)=.int .i64 i:=hA.base (by kernel_rfl) b6
   exact good_ag hA wait_one ho hg (by decide) (by rw [hop];rfl) (v:=.int .i64 i) rfl (fun l K un w d St=>run_move hop e6) (hIH' (by omega) (by omega))
  ·exact (Br.ready_no hi (hL 2 (by omega) (by omega))).elim
  ·exact (Br.ready_no hi (hL 3 (by omega) (by omega))).elim
  ·exact (Br.ready_no hi (hL 4 (by omega) (by omega))).elim
  ·exact (Br.ready_no hi (hL 5 (by omega) (by omega))).elim
  ·have e28:a.eval (.tmp 28)=pO C.o:=hA.tmp (j:=0) rfl rfl (Br.ready_after hi rfl (by kernel_rfl)) (by omega) rfl
   have e29:a.eval (.tmp 29)=.int .i64 i:=hA.tmp (j:=1) rfl rfl (Br.ready_after hi rfl (by kernel_rfl)) (by omega) rfl
   have e31:a.eval (.tmp 31)=ps.val:=hA.tmp (j:=3) rfl rfl (Br.ready_after hi rfl (by kernel_rfl)) (by omega) rfl
   have e33:a.eval (.tmp 33)=fs.val:=hA.tmp (j:=5) rfl rfl (Br.ready_after hi rfl (by kernel_rfl)) (by omega) rfl
   have l0:listed.getD 0 false=true:=Br.ready_after hi rfl (by kernel_rfl)
   have l1:listed.getD 1 false=true:=Br.ready_after hi rfl (by kernel_rfl)
   subst hs
   refine good_c rfl (fun u=>stepG_call rfl rfl (by decide) rfl Tryd.func92 rfl rfl (vs:=#[pO C.o,.int .i64 i,ps.val,fs.val]) (by simp [e28,e29,e31,e33]) u) ?_
   refine good_apart i ps fs hps hfs _ _ _ (fun x e go'=>?_)
   obtain ⟨o,ho,hdst⟩:∃ o,waitOps[6]?=some o∧o.dst=some 34:=⟨_,rfl,rfl⟩
   have hA':=(hA.val (V':=waitV C.o i (.agg (slotV K0 i)) ps.val fs.val (.tuple #[.int .i64 x,.int .i64 e]) (.int .i64 x) (.int .i64 e)) (fun j hj=>by
    have hj6:j<6:=by
     rcases Nat.lt_or_ge j 6 with h|h
     ·exact h
     ·rw [hoff j h] at hj;cases hj
    have hcs:j=0∨j=1∨j=2∨j=3∨j=4∨j=5:=by omega
    rcases hcs with rfl|rfl|rfl|rfl|rfl|rfl<;>first|rfl)).put wait_one ho (v:=.tuple #[.int .i64 x,.int .i64 e]) rfl
   rw [Frame.finish_at,show (waitOps[6]?.bind fun x=>x.dst)=o.dst from by rw [ho];rfl]
   refine wait_ph3 h40 b0 b6 b7 _ _ _ x e fr cs k0 (good_nil (hn x e go' H)) _ _ _ _ hO ⟨hA',fun j hj=>?_⟩
   have hcs:j=0∨j=1∨(2≤j∧j≤5)∨j=6:=by omega
   rcases hcs with rfl|rfl|h|rfl
   ·exact Br.set_on l0
   ·exact Br.set_on l1
   ·exact Br.set_on (hL j h.1 h.2)
   ·exact Br.set_now hi
  ·exact (Br.ready_off hi rfl (j:=6) (hoff 6 (by omega)) (by kernel_rfl)).elim
  ·exact (Br.ready_off hi rfl (j:=6) (hoff 6 (by omega)) (by kernel_rfl)).elim
  ·exact (Br.ready_off hi rfl (j:=6) (hoff 6 (by omega)) (by kernel_rfl)).elim
  ·exact (Br.ready_off hi rfl (j:=6) (hoff 6 (by omega)) (by kernel_rfl)).elim
 ·exact absurd (Br.all_listed (by kernel_rfl) hA2.1.len hr 6 (by show 6<11;omega)) (by rw [hA2.2.2 6 (by omega)];simp)
theorem wait_ph1 {bx i:Nat}{tb:Array Value}(h40:tb.size=40)(b0:tb[0]?=some (pO C.o))(b6:tb[6]?=some (.int .i64 i))(b7:tb[7]?=some (.pointer (some ⟨bx,0,none⟩))){K0:Ker}(hbx:bx∈pv){c:Array Value}{t:TypeId}{f:Nat × Nat}(hX:H bx=.cells c t f)(hms:∀ (j:Nat) (v:Value),(cut (sCell K0) (i*20) 20)[j]?=some v→c[j]?=some v)(ps:Sl)(hps:ps.ok pv H)(fr:Frame)(cs:List Frame)(k0:List Item)(k:Int × Int→Bool→Strat)
  (hs:s=(apartM i ps.xs (filesL K0 i)).then go k)(hn:∀ x e go' H',Good' C n (k (x,e) go') [] H' free go' (G (fr.finish (.tuple #[.int .i64 x,.int .i64 e])) cs)) :
  ∀ fuel listed a rest,Br.Ord waitOps fuel listed rest→(Br.Agr waitOps (waitV C.o i (.agg (slotV K0 i)) ps.val undef undef undef undef) tb listed a∧(∀ j,2≤j→j≤3→listed.getD j false=true)∧∀ j,5≤j→listed.getD j false=false)→Good' C n s pv H free go (G ((base 80).at a (.inRegion waitOps rest::.code .ret::k0)) (fr::cs)):=by
 refine Br.ord_any (fun f0 listed a q rest hi hA2 hO hIH=>?_) (fun listed a hr hA2=>?_)
 ·obtain ⟨hA,hL,hoff⟩:=hA2
  have hIH':q≤4→q≠3→∀ a',Br.Agr waitOps (waitV C.o i (.agg (slotV K0 i)) ps.val undef undef undef undef) tb (listed.setIfInBounds q true) a'→Good' C n s pv H free go (G ((base 80).at a' (.inRegion waitOps rest::.code .ret::k0)) (fr::cs)):=fun hq hq3 a' h=>hIH a' ⟨h,fun j h1 h2=>Br.set_on (hL j h1 h2),fun j hj=>Br.set_off (hoff j hj) (by omega)⟩
  have hlt:=Br.ready_lt hi
  have hz:waitOps.size=11:=by kernel_rfl
  rw [hz] at hlt
  have hcs:q=0∨q=1∨q=2∨q=3∨q=4∨q=5∨q=6∨q=7∨q=8∨q=9∨q=10:=by omega
  rcases hcs with rfl|rfl|rfl|rfl|rfl|rfl|rfl|rfl|rfl|rfl|rfl
  ·obtain ⟨o,ho,hop,hg⟩:∃ o,waitOps[0]?=some o∧o.op=.move (.tmp 0)∧o.guard=none:=⟨_,rfl,rfl,rfl⟩
   have e0:a.eval (.tmp 0)=pO C.o:=hA.base (by kernel_rfl) b0
   exact good_ag hA wait_one ho hg (by decide) (by rw [hop];rfl) (v:=pO C.o) rfl (fun l K un w d St=>run_move hop e0) (hIH' (by omega) (by omega))
  ·obtain ⟨o,ho,hop,hg⟩:∃ o,waitOps[1]?=some o∧o.op=.move (.tmp 6)∧o.guard=none:=⟨_,rfl,rfl,rfl⟩
   have e6:a.eval (.tmp 6)=.int .i64 i:=hA.base (by kernel_rfl) b6
   exact good_ag hA wait_one ho hg (by decide) (by rw [hop];rfl) (v:=.int .i64 i) rfl (fun l K un w d St=>run_move hop e6) (hIH' (by omega) (by omega))
  ·exact (Br.ready_no hi (hL 2 (by omega) (by omega))).elim
  ·exact (Br.ready_no hi (hL 3 (by omega) (by omega))).elim
  ·obtain ⟨o,ho,hop,hg⟩:∃ o,waitOps[4]?=some o∧o.op=.load 55 (.tmp 7)∧o.guard=none:=⟨_,rfl,rfl,rfl⟩
   have e7:a.eval (.tmp 7)=.pointer (some ⟨bx,0,none⟩):=hA.base (by kernel_rfl) b7
   exact good_agrow hA wait_one ho hg (by decide) hop e7 hbx hX hms Tryd.underlying55 rfl (by rw [cut_len];kernel_rfl) (congrArg Value.agg (cut_slot K0 i).symm) (hIH' (by omega) (by omega))
  ·have e32:a.eval (.tmp 32)=.agg (slotV K0 i):=hA.tmp (j:=4) rfl rfl (Br.ready_after hi rfl (by kernel_rfl)) (by omega) rfl
   have l4:listed.getD 4 false=true:=Br.ready_after hi rfl (by kernel_rfl)
   refine good_c rfl (fun u=>stepG_call rfl rfl (by decide) rfl Tryd.func90 rfl rfl (vs:=#[.agg (slotV K0 i)]) (by simp [e32]) u) ?_
   refine good_lis (by kernel_rfl) (by have:=heldL_len (fun j=>K0.S i (11+j*2)) 4;unfold filesL;omega) (fun v _=>files_slot K0 i v) _ _ (fun fs bs5 H5 hfx hfc hfb5 hfo hnew5 hkeep5=>?_)
   obtain ⟨o,ho,hdst⟩:∃ o,waitOps[5]?=some o∧o.dst=some 33:=⟨_,rfl,rfl⟩
   have hA':=(hA.val (V':=waitV C.o i (.agg (slotV K0 i)) ps.val fs.val undef undef undef) (fun j hj=>by
    have hj6:j<5:=by
     rcases Nat.lt_or_ge j 5 with h|h
     ·exact h
     ·rw [hoff j h] at hj;cases hj
    have hcs:j=0∨j=1∨j=2∨j=3∨j=4:=by omega
    rcases hcs with rfl|rfl|rfl|rfl|rfl<;>first|rfl)).put wait_one ho (v:=fs.val) rfl
   rw [Frame.finish_at,show (waitOps[5]?.bind fun x=>x.dst)=o.dst from by rw [ho];rfl]
   refine wait_ph2 h40 b0 b6 b7 ps fs (Sl.ok_more hps (fun i hi=>List.mem_append_right _ hi) hkeep5) hfo fr cs k0 k (by rw [hs,hfx]) hn _ _ _ _ hO ⟨hA',fun j h1 h2=>?_,fun j hj=>Br.set_off (hoff j (by omega)) (by omega)⟩
   have hcs:(2≤j∧j≤3)∨j=4∨j=5:=by omega
   rcases hcs with h|rfl|rfl
   ·exact Br.set_on (hL j h.1 h.2)
   ·exact Br.set_on l4
   ·exact Br.set_now hi
  ·exact (Br.ready_off hi rfl (j:=5) (hoff 5 (by omega)) (by kernel_rfl)).elim
  ·exact (Br.ready_off hi rfl (j:=6) (hoff 6 (by omega)) (by kernel_rfl)).elim
  ·exact (Br.ready_off hi rfl (j:=6) (hoff 6 (by omega)) (by kernel_rfl)).elim
  ·exact (Br.ready_off hi rfl (j:=6) (hoff 6 (by omega)) (by kernel_rfl)).elim
  ·exact (Br.ready_off hi rfl (j:=6) (hoff 6 (by omega)) (by kernel_rfl)).elim
 ·exact absurd (Br.all_listed (by kernel_rfl) hA2.1.len hr 6 (by show 6<11;omega)) (by rw [hA2.2.2 6 (by omega)];simp)
theorem wait_ph0 {bx i:Nat}{tb:Array Value}(h40:tb.size=40)(b0:tb[0]?=some (pO C.o))(b6:tb[6]?=some (.int .i64 i))(b7:tb[7]?=some (.pointer (some ⟨bx,0,none⟩))){K0:Ker}(hbx:bx∈pv){c:Array Value}{t:TypeId}{f:Nat × Nat}(hX:H bx=.cells c t f)(hms:∀ (j:Nat) (v:Value),(cut (sCell K0) (i*20) 20)[j]?=some v→c[j]?=some v)(fr:Frame)(cs:List Frame)(k0:List Item)(k:Int × Int→Bool→Strat)
  (hs:s=(apartM i (pagesL K0 i) (filesL K0 i)).then go k)(hn:∀ x e go' H',Good' C n (k (x,e) go') [] H' free go' (G (fr.finish (.tuple #[.int .i64 x,.int .i64 e])) cs)) :
  ∀ fuel listed a rest,Br.Ord waitOps fuel listed rest→(Br.Agr waitOps (waitV C.o i (.agg (slotV K0 i)) undef undef undef undef undef) tb listed a∧listed.getD 3 false=false∧∀ j,5≤j→listed.getD j false=false)→Good' C n s pv H free go (G ((base 80).at a (.inRegion waitOps rest::.code .ret::k0)) (fr::cs)):=by
 refine Br.ord_any (fun f0 listed a q rest hi hA2 hO hIH=>?_) (fun listed a hr hA2=>?_)
 ·obtain ⟨hA,h3,hoff⟩:=hA2
  have hIH':q≤4→q≠3→∀ a',Br.Agr waitOps (waitV C.o i (.agg (slotV K0 i)) undef undef undef undef undef) tb (listed.setIfInBounds q true) a'→Good' C n s pv H free go (G ((base 80).at a' (.inRegion waitOps rest::.code .ret::k0)) (fr::cs)):=fun hq hq3 a' h=>hIH a' ⟨h,Br.set_off h3 (by omega),fun j hj=>Br.set_off (hoff j hj) (by omega)⟩
  have hlt:=Br.ready_lt hi
  have hz:waitOps.size=11:=by kernel_rfl
  rw [hz] at hlt
  have hcs:q=0∨q=1∨q=2∨q=3∨q=4∨q=5∨q=6∨q=7∨q=8∨q=9∨q=10:=by omega
  rcases hcs with rfl|rfl|rfl|rfl|rfl|rfl|rfl|rfl|rfl|rfl|rfl
  ·obtain ⟨o,ho,hop,hg⟩:∃ o,waitOps[0]?=some o∧o.op=.move (.tmp 0)∧o.guard=none:=⟨_,rfl,rfl,rfl⟩
   have e0:a.eval (.tmp 0)=pO C.o:=hA.base (by kernel_rfl) b0
   exact good_ag hA wait_one ho hg (by decide) (by rw [hop];rfl) (v:=pO C.o) rfl (fun l K un w d St=>run_move hop e0) (hIH' (by omega) (by omega))
  ·obtain ⟨o,ho,hop,hg⟩:∃ o,waitOps[1]?=some o∧o.op=.move (.tmp 6)∧o.guard=none:=⟨_,rfl,rfl,rfl⟩
   have e6:a.eval (.tmp 6)=.int .i64 i:=hA.base (by kernel_rfl) b6
   exact good_ag hA wait_one ho hg (by decide) (by rw [hop];rfl) (v:=.int .i64 i) rfl (fun l K un w d St=>run_move hop e6) (hIH' (by omega) (by omega))
  ·obtain ⟨o,ho,hop,hg⟩:∃ o,waitOps[2]?=some o∧o.op=.load 55 (.tmp 7)∧o.guard=none:=⟨_,rfl,rfl,rfl⟩
   have e7:a.eval (.tmp 7)=.pointer (some ⟨bx,0,none⟩):=hA.base (by kernel_rfl) b7
   exact good_agrow hA wait_one ho hg (by decide) hop e7 hbx hX hms Tryd.underlying55 rfl (by rw [cut_len];kernel_rfl) (congrArg Value.agg (cut_slot K0 i).symm) (hIH' (by omega) (by omega))
  ·have e30:a.eval (.tmp 30)=.agg (slotV K0 i):=hA.tmp (j:=2) rfl rfl (Br.ready_after hi rfl (by kernel_rfl)) (by omega) rfl
   have l2:listed.getD 2 false=true:=Br.ready_after hi rfl (by kernel_rfl)
   refine good_c rfl (fun u=>stepG_call rfl rfl (by decide) rfl Tryd.func88 rfl rfl (vs:=#[.agg (slotV K0 i)]) (by simp [e30]) u) ?_
   refine good_lis (by kernel_rfl) (by have:=heldL_len (fun j=>K0.S i (3+j*2)) 4;unfold pagesL;omega) (fun v _=>pages_slot K0 i v) _ _ (fun ps bs5 H5 hfx hfc hfb5 hfo hnew5 hkeep5=>?_)
   obtain ⟨o,ho,hdst⟩:∃ o,waitOps[3]?=some o∧o.dst=some 31:=⟨_,rfl,rfl⟩
   have hA':=(hA.val (V':=waitV C.o i (.agg (slotV K0 i)) ps.val undef undef undef undef) (fun j hj=>by
    have hj6:j<5:=by
     rcases Nat.lt_or_ge j 5 with h|h
     ·exact h
     ·rw [hoff j h] at hj;cases hj
    have hcs:j=0∨j=1∨j=2∨j=3∨j=4:=by omega
    rcases hcs with rfl|rfl|rfl|rfl|rfl<;>first|rfl|(rw [h3] at hj;cases hj))).put wait_one ho (v:=ps.val) rfl
   rw [Frame.finish_at,show (waitOps[3]?.bind fun x=>x.dst)=o.dst from by rw [ho];rfl]
   refine wait_ph1 h40 b0 b6 b7 (List.mem_append_right _ hbx) ((hkeep5 bx hbx).trans hX) hms ps hfo fr cs k0 k (by rw [hs,hfx]) hn _ _ _ _ hO ⟨hA',fun j h1 h2=>?_,fun j hj=>Br.set_off (hoff j (by omega)) (by omega)⟩
   have hcs:j=2∨j=3:=by omega
   rcases hcs with rfl|rfl
   ·exact Br.set_on l2
   ·exact Br.set_now hi
  ·obtain ⟨o,ho,hop,hg⟩:∃ o,waitOps[4]?=some o∧o.op=.load 55 (.tmp 7)∧o.guard=none:=⟨_,rfl,rfl,rfl⟩
   have e7:a.eval (.tmp 7)=.pointer (some ⟨bx,0,none⟩):=hA.base (by kernel_rfl) b7
   exact good_agrow hA wait_one ho hg (by decide) hop e7 hbx hX hms Tryd.underlying55 rfl (by rw [cut_len];kernel_rfl) (congrArg Value.agg (cut_slot K0 i).symm) (hIH' (by omega) (by omega))
  ·exact (Br.ready_off hi rfl (j:=3) h3 (by kernel_rfl)).elim
  ·exact (Br.ready_off hi rfl (j:=3) h3 (by kernel_rfl)).elim
  ·exact (Br.ready_off hi rfl (j:=6) (hoff 6 (by omega)) (by kernel_rfl)).elim
  ·exact (Br.ready_off hi rfl (j:=6) (hoff 6 (by omega)) (by kernel_rfl)).elim
  ·exact (Br.ready_off hi rfl (j:=6) (hoff 6 (by omega)) (by kernel_rfl)).elim
  ·exact (Br.ready_off hi rfl (j:=6) (hoff 6 (by omega)) (by kernel_rfl)).elim
 ·exact absurd (Br.all_listed (by kernel_rfl) hA2.1.len hr 6 (by show 6<11;omega)) (by rw [hA2.2.2 6 (by omega)];simp)
end
section
variable {C:Ctx} {n:Nat} {pv:List Nat} {H:Heap} {free:Value} {go:Bool}
def waitM (K0:Ker)(p:Int):Nat→Nat→M (Int × Int)
 | 0,_=>(yieldM 11).bind fun e=>M.pure (0,e)
 | f+1,i=>if (K0.S i 1 == p && K0.S i 0 == 3)=true then apartM i (pagesL K0 i) (filesL K0 i) else waitM K0 p f (i+1)
noncomputable def waitRest:List Item :=
 match Tryd.f80.body with
 | some (.seq _ (.seq (.seq _ (.block i (.loop c))) r))=>[.code c,.inLoop c,.inBlock i,.code r]
 | _=>[]
theorem rep_off (m j:Nat):(Array.replicate m false).getD j false=false:=by
 rw [Array.getD_eq_getD_getElem?,Array.getElem?_replicate]
 split<;>rfl
theorem wait_loop (K0:Ker)(gF gS gD sb:Nat)(hK:K0.nS≤32)(H0:Heap)(hR:Row pv H0 gS 55 (K0.nS*20) (sCell K0))(fr:Frame)(cs:List Frame)(k:Int × Int→Bool→Strat)
  (hn:∀ x e go' H',Good' C n (k (x,e) go') [] H' free go' (G (fr.finish (.tuple #[.int .i64 x,.int .i64 e])) cs)) :
  ∀ (f i:Nat),i+f=K0.nS→∀ (H:Heap),(∀ i∈pv,H i=H0 i)→∀ (go:Bool) (j6 j7 j12 j13 j14 j15 j16 j17 j18 j19 j20 j21 j22 j23 j24 j25 j26 j27 j37:Value),
  Good' C n ((waitM K0 C.slot f i).then go k) pv H free go (G ((base 80).at ⟨#[pO C.o,stVal K0 gF gS gD,undef,.pointer (some ⟨sb,0,none⟩),.int .i64 0,.int .i64 0,j6,j7,.pointer (some ⟨sb,1,none⟩),.slice (some ⟨gS,0,none⟩) K0.nS K0.nS,.int .i64 K0.nS,.int .i64 i,j12,j13,j14,j15,j16,j17,j18,j19,j20,j21,j22,j23,j24,j25,j26,j27,undef,undef,undef,undef,undef,undef,undef,undef,undef,j37,undef,undef],[]⟩ waitRest) (fr::cs)):=by
 intro f
 induction f with
 | zero =>
  intro i hi H hH go j6 j7 j12 j13 j14 j15 j16 j17 j18 j19 j20 j21 j22 j23 j24 j25 j26 j27 j37
  obtain rfl:i=K0.nS:=by omega
  unfold waitM
  rw [M.bind_then]
  unfold waitRest
  simp only [Tryd.f80,pO]
  apply good_still
  ·intro l K un w Stop St hd d
   have hc:=St.clear
   refine Br.liv_seq (fun d=>?_) _
   refine Br.liv_region (fun d=>?_) _
   simp only [Br.rz,Br.ix,Nat.reduceAdd]
   refine Br.mo rfl rfl hc (fun d K' hK=>?_) _
   go_simp
   refine hK _ _ ⟨rfl,?_⟩
   clear hK K'
   refine Br.liv_region_end (fun d=>?_) _
   refine Br.liv_seq (fun d=>?_) _
   refine Br.mc rfl (fun u=>stepG_cond (t:=false) (by simp [Act.eval])) (fun d=>?_) _
   simp only [if_false,Bool.false_eq_true]
   refine Br.mc rfl (fun u=>stepG_exit rfl) (fun d=>?_) _
   refine Br.liv_seq (fun d=>?_) _
   refine Br.liv_region (fun d=>?_) _
   simp only [Br.rz,Br.ix,Nat.reduceAdd]
   refine Br.mo rfl rfl hc (fun d K' hK=>?_) _
   go_simp
   refine hK _ _ ⟨rfl,?_⟩
   clear hK K'
   refine Br.mc rfl (fun u=>stepG_call rfl rfl (by decide) rfl Tryd.func93 rfl rfl (vs:=#[pO C.o,.int .i64 11]) (by simp [Act.eval]) u) (fun d=>?_) _
   exact hd _
  refine good_yield 11 _ _ _ (fun e go'=>?_)
  rw [M.pure_then,Frame.finish_at]
  apply good_still
  ·intro l K un w Stop St hd d
   have hc:=St.clear
   go_simp
   refine Br.mo rfl rfl hc (fun d K' hK=>?_) _
   go_simp
   refine hK _ _ ⟨rfl,?_⟩
   clear hK K'
   refine Br.mo rfl rfl hc (fun d K' hK=>?_) _
   go_simp
   refine hK _ _ ⟨rfl,?_⟩
   clear hK K'
   refine Br.liv_region_end (fun d=>?_) _
   refine Br.liv_ret (fun d=>?_) _
   exact Br.liv_leave (v:=.tuple #[.int .i64 0,.int .i64 e]) rfl rfl Tryd.func80 (resultsC_tmp2 (t:=4) (u:=5) rfl _) hd _
   done
  exact good_nil (hn 0 e go' H)
 | succ f ih =>
  intro i hi H hH go j6 j7 j12 j13 j14 j15 j16 j17 j18 j19 j20 j21 j22 j23 j24 j25 j26 j27 j37
  have hlt:i<K0.nS:=by omega
  have hlt':(i:Int)<(K0.nS:Int):=by omega
  have key:=fun (j6 j7 j12 j13 j14 j15 j16 j17 j18 j19 j20 j21 j22 j23 j24 j25 j26 j27 j37:Value) v hv=>wait_read (C:=C) (pv:=pv) (H:=H) (gF:=gF) (gD:=gD) (sb:=sb) hK (hR.same (hH gS hR.1)) hlt j6 j7 j12 j13 j14 j15 j16 j17 j18 j19 j20 j21 j22 j23 j24 j25 j26 j27 j37 v hv
  unfold waitM
  unfold waitRest at *
  unfold waitR3 at key
  simp only [Tryd.f80,pO] at *
  apply good_still
  ·intro l K un w Stop St hd d
   have hc:=St.clear
   refine Br.liv_seq (fun d=>?_) _
   refine Br.liv_region (fun d=>?_) _
   simp only [Br.rz,Br.ix,Nat.reduceAdd]
   refine Br.mo rfl rfl hc (fun d K' hK=>?_) _
   go_simp
   refine hK _ _ ⟨rfl,?_⟩
   clear hK K'
   refine Br.liv_region_end (fun d=>?_) _
   refine Br.liv_seq (fun d=>?_) _
   refine Br.mc rfl (fun u=>stepG_cond (t:=true) (by simp [Act.eval,hlt])) (fun d=>?_) _
   simp only [if_true]
   refine Br.liv_skip (fun d=>?_) _
   refine Br.liv_seq (fun d=>?_) _
   refine Br.mc rfl (fun u=>stepG_block) (fun d=>?_) _
   refine Br.liv_seq (fun d=>?_) _
   exact hd _
  refine good_code (by kernel_rfl) rfl rfl ⟨_,Tryd.func80⟩ (fun v hv _=>key _ _ _ _ _ _ _ _ _ _ _ _ _ _ _ _ _ _ _ v hv) _ _ ?_
  clear key
  rintro a' bs Hn ⟨bx,rfl,rfl,c,t,fz,hX,hc⟩ hnew hkeep
  have hbx:=(hnew bx (List.mem_singleton.2 rfl)).1
  have key:=fun (j12 j13 j14 j15 j16 j17 j18 j19 j20 j21 j22 j23 j24 j25 j26 j27 j37:Value) v hv hC=>wait_look (C:=C) (pv:=[bx] ++ pv) (H:=Hn) (gF:=gF) (gS:=gS) (gD:=gD) (sb:=sb) (List.mem_append_left _ (List.mem_singleton.2 rfl)) hX hc j12 j13 j14 j15 j16 j17 j18 j19 j20 j21 j22 j23 j24 j25 j26 j27 j37 v hv hC
  unfold waitR4 at key
  simp only [Tryd.f80,pO] at key
  apply good_still
  ·intro l K un w Stop St hd d
   have hc:=St.clear
   refine Br.liv_seq (fun d=>?_) _
   exact hd _
  refine good_code (by kernel_rfl) rfl rfl ⟨_,Tryd.func80⟩ (fun v hv hrec=>key _ _ _ _ _ _ _ _ _ _ _ _ _ _ _ _ _ v hv (hrec 4 _ (fun un=>by simp [oRow]))) _ _ ?_
  clear key
  rintro a' bs Hn2 ⟨rfl,j12,j13,j14,j15,j16,j17,j18,j19,j20,j21,j22,j23,j24,j25,j26,j37,rfl⟩ hnew2 hkeep2
  have hX2:Hn2 bx=.cells c t fz:=(hkeep2 bx (List.mem_append_left _ (List.mem_singleton.2 rfl))).trans hX
  by_cases hb:(K0.S i 1 == C.slot && K0.S i 0 == 3)=true
  ·rw [if_pos hb]
   apply good_still
   ·intro l K un w Stop St hd d
    have hc:=St.clear
    refine Br.mc rfl (fun u=>stepG_cond (t:=true) (by simpa [Act.eval] using hb)) (fun d=>?_) _
    simp only [if_true]
    refine Br.liv_seq (fun d=>?_) _
    exact hd _
   have key:=fun (tb:Array Value) h40 b0 b6 b7 (k0:List Item) rest hO=>wait_ph0 (C:=C) (n:=n) (pv:=[] ++ ([bx] ++ pv)) (H:=Hn2) (free:=free) (go:=go) (i:=i) (tb:=tb) (K0:=K0) h40 b0 b6 b7 (List.mem_append_right _ (List.mem_append_left _ (List.mem_singleton.2 rfl))) hX2 (fun j v hj=>by obtain ⟨h1,rfl⟩:=cut_mem hj;exact hc j h1) fr cs k0 k rfl hn waitOps.size (Array.replicate waitOps.size false) ⟨tb,[]⟩ rest hO ⟨Br.Agr.start _ _ _,rep_off _ _,fun j _=>rep_off _ _⟩
   unfold waitOps at key
   simp only [Tryd.f80,pO] at key
   refine good_draw (by kernel_rfl) (fun rest hO=>?_)
   exact key _ rfl rfl rfl rfl _ rest hO
  ·rw [if_neg hb]
   have hb:(K0.S i 1 == C.slot && K0.S i 0 == 3)=false:=by simpa using hb
   apply good_still
   ·intro l K un w Stop St hd d
    have hc:=St.clear
    refine Br.mc rfl (fun u=>stepG_cond (t:=false) (by simpa [Act.eval] using hb)) (fun d=>?_) _
    simp only [if_false,Bool.false_eq_true]
    refine Br.liv_skip (fun d=>?_) _
    refine Br.mc rfl (fun u=>stepG_inBlock) (fun d=>?_) _
    refine Br.liv_region (fun d=>?_) _
    simp only [Br.rz,Br.ix,Nat.reduceAdd]
    refine Br.mo rfl rfl hc (fun d K' hK=>?_) _
    go_simp
    refine hK _ _ ⟨rfl,?_⟩
    clear hK K'
    refine Br.mo rfl rfl hc (fun d K' hK=>?_) _
    go_simp
    refine hK _ _ ⟨rfl,?_⟩
    clear hK K'
    refine Br.liv_region_end (fun d=>?_) _
    refine Br.mc rfl (fun u=>stepG_inLoop) (fun d=>?_) _
    exact hd _
   rw [wrap_small (by omega) (by omega),show ((i:Int)+1)=((i+1:Nat):Int) from by simp]
   refine good_fewer (pv':=pv) (H':=Hn2) (fun j hj=>List.mem_append_right _ (List.mem_append_right _ hj)) (fun _ _=>rfl) ?_
   exact ih (i+1) (by omega) Hn2 (fun j hj=>(hkeep2 j (List.mem_append_right _ hj)).trans ((hkeep j hj).trans (hH j hj))) go _ _ _ _ _ _ _ _ _ _ _ _ _ _ _ _ _ _ _
noncomputable def waitsBody:Code:=(Tryd.f80.body).getD .skip
theorem waits_enter (o:OpD)(y:Value):Frame.enter Tryd.prog 80 #[pO o,y] .normal=(base 80).at ⟨#[pO o,y,undef,undef,undef,undef,undef,undef,undef,undef,undef,undef,undef,undef,undef,undef,undef,undef,undef,undef,undef,undef,undef,undef,undef,undef,undef,undef,undef,undef,undef,undef,undef,undef,undef,undef,undef,undef,undef,undef],[]⟩ [.code waitsBody]:=by
 rw [enter_at (c:=waitsBody) _ Tryd.func80 rfl]
 refine congrArg (fun t=>(base 80).at ⟨t,[]⟩ [.code waitsBody]) ?_
 kernel_rfl
theorem good_wait (K0:Ker)(gF gS gD:Nat)(hK:K0.nS≤32)(hR:Row pv H gS 55 (K0.nS*20) (sCell K0))(fr:Frame)(cs:List Frame)(k:Int × Int→Bool→Strat)
  (hn:∀ x e go' H',Good' C n (k (x,e) go') [] H' free go' (G (fr.finish (.tuple #[.int .i64 x,.int .i64 e])) cs)) :
  Good' C n ((waitM K0 C.slot K0.nS 0).then go k) pv H free go (G (Frame.enter Tryd.prog 80 #[pO C.o,stVal K0 gF gS gD] .normal) (fr::cs)):=by
 have key:=fun sb=>wait_loop (C:=C) (n:=n) (free:=free) K0 gF gS gD sb hK H hR fr cs k hn K0.nS 0 (by omega) H (fun _ _=>rfl) go
 unfold waitRest at key
 rw [waits_enter]
 simp only [waitsBody,Tryd.f80,Option.getD_some,pO] at *
 unfold stVal at *
 apply good_box (X:=boxSt K0 gF gS gD) trivial
 ·intro l K un w bx Stop hbx St hd d
  have hc:=St.clear
  refine Br.liv_seq (fun d=>?_) _
  refine Br.liv_region (fun d=>?_) _
  simp only [Br.rz,Br.ix,Nat.reduceAdd]
  refine Br.must_operW rfl rfl (by decide) (fun d K' hK=>?_) _
  go_simp
  refine hK _ _ ⟨Br.dl_alloc (fun e he=>?_),?_⟩
  ·have hm:=mem_listed he
   simp [go_sem] at hm
  clear hK K'
  have hc:Clear (w.alloc (boxSt K0 gF gS gD)):=(Br.lk_new hc.lk (o:=boxSt K0 gF gS gD) trivial).1.sight
  rw [show (w.at d).alloc (boxSt K0 gF gS gD)=(w.alloc (boxSt K0 gF gS gD)).at d from rfl]
  refine Br.mo rfl rfl hc (fun d K' hK=>?_) _
  go_simp
  refine hK _ _ ⟨rfl,?_⟩
  clear hK K'
  refine Br.mo rfl rfl hc (fun d K' hK=>?_) _
  go_simp
  refine hK _ _ ⟨rfl,?_⟩
  clear hK K'
  refine Br.liv_region_end (fun d=>?_) _
  rw [← hbx];exact hd _
 intro bx hb hb'
 apply good_still
 ·intro l K un w Stop St hd d
  have hc:=St.clear
  refine Br.liv_seq (fun d=>?_) _
  refine Br.liv_seq (fun d=>?_) _
  refine Br.liv_region (fun d=>?_) _
  simp only [Br.rz,Br.ix,Nat.reduceAdd]
  refine Br.mo rfl rfl hc (fun d K' hK=>?_) _
  go_simp
  refine hK _ _ ⟨rfl,?_⟩
  clear hK K'
  refine Br.mo rfl rfl hc (fun d K' hK=>?_) _
  have e1:(w.at d).cell? ⟨bx,1,none⟩=some (.slice (some ⟨gS,0,none⟩) K0.nS K0.nS):=St.cell (List.mem_cons_self ..) (Heap.set_same _ _ _) rfl
  go_simp
  refine hK _ _ ⟨rfl,?_⟩
  clear hK K'
  refine Br.mo rfl rfl hc (fun d K' hK=>?_) _
  go_simp
  refine hK _ _ ⟨rfl,?_⟩
  clear hK K'
  refine Br.mo rfl rfl hc (fun d K' hK=>?_) _
  go_simp
  refine hK _ _ ⟨rfl,?_⟩
  clear hK K'
  refine Br.liv_region_end (fun d=>?_) _
  refine Br.mc rfl (fun u=>stepG_block) (fun d=>?_) _
  refine Br.mc rfl (fun u=>stepG_loop) (fun d=>?_) _
  exact hd _
 refine good_drop hb ?_
 exact key bx _ _ _ _ _ _ _ _ _ _ _ _ _ _ _ _ _ _ _
end
end Go.Proofs.YtcgabodkegcpgaaDoor
