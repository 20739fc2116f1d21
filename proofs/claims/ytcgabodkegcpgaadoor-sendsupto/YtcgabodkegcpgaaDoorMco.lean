/- Begin in company. -/
import Derived.Test.YtcgabodkegcpgaaDoorMcm
set_option linter.unusedVariables false
set_option linter.unusedSimpArgs false
set_option maxHeartbeats 20000000
set_option maxRecDepth 100000
namespace Go.Proofs.YtcgabodkegcpgaaDoor
open Go.Conc Go.RowKit
open Br (X OpD KO SO SP sfO Lk Fit Must DL Liv Clear)
def setO (U:Nat→Option OpD)(p:Nat)(o:OpD):Nat→Option OpD:=fun q=>if q=p then some o else U q
noncomputable def bgTail:Code :=
 match Tryd.f17.body with
 | some (.seq _ c)=>c
 | _=>.skip
noncomputable def bgEnd:Code :=
 match Tryd.f17.body with
 | some (.seq _ (.seq _ (.seq _ (.seq _ (.seq _ c)))))=>c
 | _=>.skip
theorem must_st {ops:Array Oper}{i:Nat}{o:Oper}{a:Act}{b:Frame}{rest:List Nat}{k:List Item}{cs:List Frame}{main:Bool}{sft:Nat→Nat}{Stop:Goroutine→World→Prop}{w:World}{x:Value}{ad:Addr}(ho:ops[i]?=some o)(hg:o.guard=none)(hk:b.kind≠.early)
  (hv:∀ d,(execOp a.eval o).run Tryd.prog (w.at d)=.ok .skip ((w.at d).setCell ad x))(he:∀ d,∀ e∈(execOp a.eval o).events Tryd.prog (w.at d) #[],e=⟨.cell ad,true,false⟩)(hs:sft ad.block≤ad.off)(hlt:ad.block<w.heap.size)
  (hn:∀ d,Must Tryd.prog main (DL true sft) Stop (G (b.at (a.put o.dst undef) (.inRegion ops rest::k)) cs) ((w.setCell ad x).at d))(d0:Nat) :
  Must Tryd.prog main (DL true sft) Stop (G (b.at a (.inRegion ops (i::rest)::k)) cs) (w.at d0) :=
 Br.must_operW ho (by unfold Region.wanted;rw [hg]) hk (fun d K' hK=>by
  rw [hv d]
  exact hK _ _ ⟨Br.dl_store (u:=w.at d) hs hlt (fun e h=>he d e (mem_listed h)),hn d⟩) d0
section
variable {kb:Kb} {l:List OpD} {K:Ker} {L:Nat→Option Lv} {r:Nat} {Inb:Nat→Option Seat} {nG:Nat} {w w':World} {v:Lv} {Final:Machine→Trace→Prop} {b:Lb} {B0:Nat} {U:Nat→Option OpD} {V:Nat→Value} {N:Nat→Nat} {Xs:Nat→List Value}
theorem Mw.born {L':Nat→Option Lv}{k:Nat}{C:Ctx}{v':Lv}(h:Mw kb l L w k)(hk:Kp kb L w L' w')(hv:L' nG=some v')(hp:C.o.bo∈v'.pv):Mw kb (C.o::l) L' w' k :=
 ⟨(hk k h.mn).1,h.bk,h.tab,fun o ho e=>by
  rcases List.mem_cons.1 ho with rfl|ho
  ·exact ((hk k h.mn).1.own nG v' hv).1 (e▸hp)
  ·exact h.rc o ho e⟩
theorem LibM0.born {n:Nat}{L':Nat→Option Lv}{C:Ctx}{v':Lv}(h:LibM0 kb l L w b n B0 U V N Xs)(hk:Kp kb L w L' w')(hv:L' nG=some v')(hp:C.o.bo∈v'.pv):LibM0 kb (C.o::l) L' w' b n B0 U V N Xs :=
 ⟨h.is.same (hk _ h.mbl.mn).2 (hk _ h.mbu.mn).2 (hk _ h.mbn.mn).2 (fun p hp x hx=>(hk _ (h.mls p hp x hx).mn).2),h.mbl.born hk hv hp,h.mbu.born hk hv hp,h.mbn.born hk hv hp,fun p hp' x hx=>(h.mls p hp' x hx).born hk hv hp,h.b0⟩
theorem bg_begin (co:Co kb l K L r Inb nG w)(lm:LibM kb l L w b K.nS B0 U V N Xs)(h0:0<nG){p:Nat}(hp:p<K.nS)(hU:U p=none)(kd A B:Int){bx:Nat}(hbx:Mn kb L w bx)(hX:w.heap[bx]?=some (.cells #[.int .i64 kd,.int .i64 A,.int .i64 B] 38 (0,0)))(fr:Frame)(cs:List Frame)
  (hbeg:∀ w' (C:Ctx) H Inb',C.slot=(p:Int)→C.kd=kd→C.A=A→C.B=B→OnK kb C→C.o.gid=nG→Co kb (C.o::l) K (ConcN.upd L nG (some ⟨C,opStrat C p,[C.o.bo],H,[runFr C.o,bot]⟩)) r Inb' (nG+1) w'→(∀ k,Mn kb L w k→k≠b.bu→Mn kb (ConcN.upd L nG (some ⟨C,opStrat C p,[C.o.bo],H,[runFr C.o,bot]⟩)) w' k∧w'.heap[k]?=w.heap[k]?)→LibM kb (C.o::l) (ConcN.upd L nG (some ⟨C,opStrat C p,[C.o.bo],H,[runFr C.o,bot]⟩)) w' b K.nS B0 (setO U p C.o) V N Xs→X Tryd.prog Final (C.o::l) Inb' (nG+1) 0 (G (fr.finish (.int .i64 0)) cs) w')(d0:Nat) :
  Must Tryd.prog true (DL true (sfO l)) (X Tryd.prog Final l Inb nG 0) (G ((base 17).at ⟨#[.pointer (some ⟨b.bl,0,none⟩),.int .i64 p,.agg #[.int .i64 kd,.int .i64 A,.int .i64 B],undef,undef,.pointer (some ⟨bx,0,none⟩),.int .i64 0,.pointer (some ⟨bx,0,none⟩),.int .i64 kd,.bool false,.bool false,.pointer (some ⟨bx,0,none⟩),.int .i64 kd,.bool false,.bool false,.pointer (some ⟨b.bl,0,none⟩),.int .i64 p,.bool true,.bool false,.pointer (some ⟨b.bl,0,none⟩),.pointer (some ⟨b.bl,0,none⟩),.pointer (some ⟨b.bl,1,none⟩),.slice (some ⟨b.bu,0,none⟩) K.nS K.nS,.int .i64 p,.pointer (some ⟨b.bu,p,none⟩),.pointer none,.bool false,undef,undef,undef,undef,undef,undef,undef,undef,undef,undef,undef,undef,undef],[]⟩ [.code (.region 7 bgOps true),.code bgEnd]) (fr::cs)) (w.at d0):=by
 have hc:=co.env.fit.clear
 have xc:∀ (j:Nat) (x:Value),(#[Value.int .i64 kd,.int .i64 A,.int .i64 B]:Array Value)[j]?=some x→w.cell? ⟨bx,j,none⟩=some x:=fun j x h=>by simp only [World.cell?,hX];simpa using h
 have hS:BgS w b.bl b.bu kb.bk K.nS bx kd A B:=⟨lm.m.is.k0,lm.m.is.k1,xc 0 _ rfl,xc 1 _ rfl,xc 2 _ rfl⟩
 refine must_draw (fun t d=>?_) d0
 refine bg_phA (bl:=b.bl) (bu:=b.bu) (bk:=kb.bk) (n:=K.nS) (p:=p) (bx:=bx) (kd:=kd) (A:=A) (B:=B) rfl rfl rfl rfl hp hc hS _ _ (fun fuel listed a rest d hO hA hi hoff=>?_) _ _ _ _ (Br.ord_start (by kernel_rfl) bgOps t) ⟨Br.Agr.start _ _ _,fun j _=>rep_off _ _⟩ d
 have e35:a.eval (.tmp 35)=.pointer (some ⟨kb.bk,0,none⟩):=hA.tmp (j:=8) rfl rfl (Br.ready_after hi rfl (by kernel_rfl)) (by simp) rfl
 have e36:a.eval (.tmp 36)=.int .i64 p:=hA.tmp (j:=9) rfl rfl (Br.ready_after hi rfl (by kernel_rfl)) (by simp) rfl
 have e37:a.eval (.tmp 37)=.agg #[.int .i64 kd,.int .i64 A,.int .i64 B]:=hA.tmp (j:=10) rfl rfl (Br.ready_after hi rfl (by kernel_rfl)) (by simp) rfl
 refine Br.mc rfl (fun u=>stepG_call rfl rfl (by decide) rfl Tryd.func41 rfl rfl (vs:=#[.pointer (some ⟨kb.bk,0,none⟩),.int .i64 p,.agg #[.int .i64 kd,.int .i64 A,.int .i64 B]]) (by simp [e35,e36,e37]) u) (fun d=>?_) d
 refine .stop ?_
 refine main_begin (co.at d) h0 hp kd A B _ _ (fun w' C H Inb' c1 c2 c3 c4 c5 c6 c7 c8=>?_)
 obtain ⟨L',hL'⟩:∃ L',L'=ConcN.upd L nG (some (⟨C,opStrat C p,[C.o.bo],H,[runFr C.o,bot]⟩:Lv)):=⟨_,rfl⟩
 have hbeg':=hbeg
 rw [← hL'] at c7 c8
 have hLn:L' nG=some ⟨C,opStrat C p,[C.o.bo],H,[runFr C.o,bot]⟩:=by rw [hL'];exact ConcN.upd_same _ _ _
 have c8':Kp kb L w L' w':=fun k hM=>c8 k ⟨hM.lt,hM.nf,hM.ns,hM.nd,hM.own⟩
 have lm':=lm.m.born c8' hLn (C:=C) (List.mem_singleton.2 rfl)
 have cl':=c7.env.fit.clear
 have cu:w'.cell? ⟨b.bu,p,none⟩=some (.pointer none):=by have:=lm'.is.u.cell hp;simp only [hU] at this;exact this
 have zu:=lm'.is.u.frozen p
 have hbx':=(c8' bx hbx).2
 have yc:∀ (j:Nat) (x:Value),(#[Value.int .i64 kd,.int .i64 A,.int .i64 B]:Array Value)[j]?=some x→w'.cell? ⟨bx,j,none⟩=some x:=fun j x h=>by rw [World.cell?_of_block (w:=w) hbx'];exact xc j x h
 have hS':BgS w' b.bl b.bu kb.bk K.nS bx kd A B:=⟨lm'.is.k0,lm'.is.k1,yc 0 _ rfl,yc 1 _ rfl,yc 2 _ rfl⟩
 have o3:∀ k,k≠b.bu→(w'.setCell ⟨b.bu,p,none⟩ (pO C.o)).heap[k]?=w'.heap[k]?:=fun k hk=>by rw [Br.heap_setCell,if_neg (fun e=>hk e.symm)]
 have z3:(w'.setCell ⟨b.bu,p,none⟩ (pO C.o)).heap.size=w'.heap.size:=by simp [World.setCell]
 have cl3:Clear (w'.setCell ⟨b.bu,p,none⟩ (pO C.o)):=(Br.lk_setCell cl'.lk (Nat.zero_le _) _).1.sight
 have co3:Co kb (C.o::l) K L' r Inb' (nG+1) (w'.setCell ⟨b.bu,p,none⟩ (pO C.o)):=c7.wrote (by omega) cl3 (fun k hk h=>o3 k (fun e=>h (e▸lm'.mbu)))
 have u3:=lm'.is.u.set hp (pO C.o)
 obtain ⟨ne1,ne2,ne3,lb1,lb2,lb3⟩:=lm.m.is.ne
 have lm3:LibM kb (C.o::l) L' (w'.setCell ⟨b.bu,p,none⟩ (pO C.o)) b K.nS B0 (setO U p C.o) V N Xs:=by
  have lsne:∀ q,q<K.nS→∀ x,(V q).ownBlock=some x→x≠b.bu:=fun q hq x hx=>by have:=(owns_lt (lm'.is.own q hq) hx).1;omega
  refine ⟨⟨⟨(World.cell?_of_block (w:=w') (o3 _ ne1)).trans lm'.is.k0,(World.cell?_of_block (w:=w') (o3 _ ne1)).trans lm'.is.k1,(World.cell?_of_block (w:=w') (o3 _ ne1)).trans lm'.is.k2,?_,lm'.is.d.of (o3 _ (Ne.symm ne3)),fun q hq=>owns_same (lm'.is.own q hq) (fun x hx=>o3 x (lsne q hq x hx)),lm'.is.far,lm'.is.ne,lm'.is.small⟩,lm'.mbl.grow (by omega),lm'.mbu.grow (by omega),lm'.mbn.grow (by omega),fun q hq x hx=>(lm'.mls q hq x hx).grow (by omega),lm'.b0⟩,fun q hq o' ho'=>?_⟩
  ·obtain ⟨c,t,a1,a2,a3⟩:=u3
   refine ⟨c,t,a1,a2,fun q hq=>?_⟩
   rw [a3 q hq]
   by_cases e:q=p
   ·simp only [setO,e,if_true];rfl
   ·simp only [setO,e,if_false]
  ·by_cases e:q=p
   ·simp only [setO,e,if_true] at ho'
    obtain rfl:=Option.some.inj ho'
    exact ⟨_,by rw [c6];exact hLn,rfl,by rw [e];exact c1⟩
   ·simp only [setO,e,if_false] at ho'
    obtain ⟨u,hu,he,hs⟩:=lm.live q hq o' ho'
    have:=co.gid _ u hu
    exact ⟨u,by rw [hL',ConcN.upd_ne _ _ (by omega)];exact hu,he,hs⟩
 have hx:∀ d,X Tryd.prog Final (C.o::l) Inb' (nG+1) 0 (G (fr.finish (.int .i64 0)) cs) ((w'.setCell ⟨b.bu,p,none⟩ (pO C.o)).at d):=fun d=>by
  refine hbeg _ C H Inb' c1 c2 c3 c4 c5 c6 ?_ (fun k hM hk=>?_) ?_
  ·rw [← hL'];exact co3.at d
  ·rw [← hL']
   obtain ⟨m1,m2⟩:=c8' k hM
   exact ⟨⟨by show k<_;rw [show ((w'.setCell ⟨b.bu,p,none⟩ (pO C.o)).at d).heap.size=w'.heap.size from z3];exact m1.lt,m1.nf,m1.ns,m1.nd,m1.own⟩,(o3 k hk).trans m2⟩
  ·rw [← hL'];exact lm3.grown ⟨Nat.le_refl _,fun _ _=>rfl,cl3⟩
 have bul:b.bu<w'.heap.size:=lm'.mbu.mn.lt
 have sfu:sfO (C.o::l) b.bu=0:=lm'.mbu.sf
 clear lm3 co3 c7 c8 hbeg hbeg'
 rw [Frame.finish_at]
 refine Br.x_must (st:=true) ?_
 show Must Tryd.prog true (DL true (sfO (C.o::l))) _ _ (w'.at w'.drawn)
 obtain ⟨o,ho,hdst⟩:∃ o,bgOps[11]?=some o∧o.dst=some 38:=⟨_,rfl,rfl⟩
 have hA':=(hA.val (V':=bgV b.bl b.bu kb.bk K.nS p kd A B (pO C.o)) (fun j hj=>by
  have hj11:j<11:=by
   rcases Nat.lt_or_ge j 11 with h|h
   ·exact h
   ·rw [hoff j h] at hj;cases hj
  have hcs:j=0∨j=1∨j=2∨j=3∨j=4∨j=5∨j=6∨j=7∨j=8∨j=9∨j=10:=by omega
  rcases hcs with rfl|rfl|rfl|rfl|rfl|rfl|rfl|rfl|rfl|rfl|rfl<;>rfl)).put bg_one ho (v:=pO C.o) rfl
 rw [show (bgOps[11]?.bind fun x=>x.dst)=o.dst from by rw [ho];rfl]
 refine bg_phB (bl:=b.bl) (bu:=b.bu) (bk:=kb.bk) (n:=K.nS) (p:=p) (bx:=bx) (kd:=kd) (A:=A) (B:=B) (w3:=w'.setCell ⟨b.bu,p,none⟩ (pO C.o)) rfl rfl rfl rfl hp cl' hS' (pO C.o) _ _ (fun o a rest d ho hop hg e39 e38 hn=>?_) (fun d=>?_) _ _ (a.put o.dst (pO C.o),w') _ hO ⟨hA',by rw [set_else (by omega),hoff 13 (by omega)];rfl,Br.set_now hi,fun h=>(by rw [set_else (by omega),hoff 12 (by omega)] at h;cases h),fun h=>(by rw [set_else (by omega),hoff 13 (by omega)] at h;cases h)⟩ _
 ·have hrun:∀ d,(execOp a.eval o).run Tryd.prog (w'.at d)=.ok .skip ((w'.at d).setCell ⟨b.bu,p,none⟩ (pO C.o))∧∀ e∈(execOp a.eval o).events Tryd.prog (w'.at d) #[],e=⟨.cell ⟨b.bu,p,none⟩,true,false⟩:=fun d=>by
   have y1:(w'.at d).cell? ⟨b.bu,p,none⟩=some (.pointer none):=cu
   have y2:(w'.at d).frozen? ⟨b.bu,p,none⟩=false:=zu
   unfold execOp
   simp only [hop,e39,e38]
   constructor
   ·go_simp
   ·intro e he
    simp only [go_sem] at he
    simp [go_sem] at he
    try rw [events_store _ _ _ _ _ _ rfl] at he
    first|rw [y1] at he|rw [cu] at he
    first|rw [y2] at he|rw [zu] at he
    simp only [Bool.false_eq_true,if_false,List.push_toArray,List.nil_append,List.mem_toArray,List.mem_cons,List.not_mem_nil,or_false] at he
    exact he
  exact must_st ho hg (by decide) (fun d=>(hrun d).1) (fun d=>(hrun d).2) (by rw [sfu];exact Nat.zero_le _) bul hn d
 ·have hc:=cl3
  rw [show Br.fill bgOps (bgV b.bl b.bu kb.bk K.nS p kd A B (pO C.o)) #[.pointer (some ⟨b.bl,0,none⟩),.int .i64 p,.agg #[.int .i64 kd,.int .i64 A,.int .i64 B],undef,undef,.pointer (some ⟨bx,0,none⟩),.int .i64 0,.pointer (some ⟨bx,0,none⟩),.int .i64 kd,.bool false,.bool false,.pointer (some ⟨bx,0,none⟩),.int .i64 kd,.bool false,.bool false,.pointer (some ⟨b.bl,0,none⟩),.int .i64 p,.bool true,.bool false,.pointer (some ⟨b.bl,0,none⟩),.pointer (some ⟨b.bl,0,none⟩),.pointer (some ⟨b.bl,1,none⟩),.slice (some ⟨b.bu,0,none⟩) K.nS K.nS,.int .i64 p,.pointer (some ⟨b.bu,p,none⟩),.pointer none,.bool false,undef,undef,undef,undef,undef,undef,undef,undef,undef,undef,undef,undef,undef]=#[.pointer (some ⟨b.bl,0,none⟩),.int .i64 p,.agg #[.int .i64 kd,.int .i64 A,.int .i64 B],undef,undef,.pointer (some ⟨bx,0,none⟩),.int .i64 0,.pointer (some ⟨bx,0,none⟩),.int .i64 kd,.bool false,.bool false,.pointer (some ⟨bx,0,none⟩),.int .i64 kd,.bool false,.bool false,.pointer (some ⟨b.bl,0,none⟩),.int .i64 p,.bool true,.bool false,.pointer (some ⟨b.bl,0,none⟩),.pointer (some ⟨b.bl,0,none⟩),.pointer (some ⟨b.bl,1,none⟩),.slice (some ⟨b.bu,0,none⟩) K.nS K.nS,.int .i64 p,.pointer (some ⟨b.bu,p,none⟩),.pointer none,.bool false,.pointer (some ⟨b.bl,0,none⟩),.pointer (some ⟨b.bl,0,none⟩),.pointer (some ⟨b.bl,1,none⟩),.slice (some ⟨b.bu,0,none⟩) K.nS K.nS,.int .i64 p,.pointer (some ⟨b.bl,0,none⟩),.pointer (some ⟨b.bl,0,none⟩),.pointer (some ⟨b.bl,0,none⟩),.pointer (some ⟨kb.bk,0,none⟩),.int .i64 p,.agg #[.int .i64 kd,.int .i64 A,.int .i64 B],pO C.o,.pointer (some ⟨b.bu,p,none⟩)] from by kernel_rfl]
  generalize w'.setCell ⟨b.bu,p,none⟩ (pO C.o)=w3 at *
  clear u3 o3 z3 hS' hS cu zu lm' c8' hA' hA
  unfold bgEnd
  simp only [Tryd.f17]
  refine Br.liv_region_end (fun d=>?_) _
  refine Br.liv_seq (fun d=>?_) _
  refine Br.liv_region (fun d=>?_) _
  simp only [Br.rz,Br.ix,Nat.reduceAdd]
  refine Br.mo rfl rfl hc (fun d K' hK=>?_) _
  go_simp
  refine hK _ _ ⟨rfl,?_⟩
  clear hK K'
  refine Br.liv_region_end (fun d=>?_) _
  refine Br.liv_ret (fun d=>?_) _
  exact Br.liv_leave (v:=.int .i64 0) rfl rfl Tryd.func17 (resultsC_tmp (t:=6) rfl _) (w:=w3) (fun d=>.stop (hx d)) _
end
section
variable {kb:Kb} {l:List OpD} {K:Ker} {L:Nat→Option Lv} {r:Nat} {Inb:Nat→Option Seat} {nG:Nat} {w w':World} {v:Lv} {Final:Machine→Trace→Prop} {b:Lb} {B0:Nat} {U:Nat→Option OpD} {V:Nat→Value} {N:Nat→Nat} {Xs:Nat→List Value}
theorem bg_rest (co:Co kb l K L r Inb nG w){n:Nat}(hn:K.nS=n)(lm:LibM kb l L w b n B0 U V N Xs)(h0:0<nG)(s kd A B:Int){bx:Nat}(hbx:Mn kb L w bx)(hX:w.heap[bx]?=some (.cells #[.int .i64 kd,.int .i64 A,.int .i64 B] 38 (0,0)))(fr:Frame)(cs:List Frame)
  (hcall:(kd<1∨7<kd)→∀ w',Grown w w'→X Tryd.prog Final l Inb nG 0 (G (fr.finish (.int .i64 2)) cs) w')
  (hno:1≤kd→kd≤7→(decide (0≤s) && decide (s<(n:Int)))=false→∀ w',Grown w w'→X Tryd.prog Final l Inb nG 0 (G (fr.finish (.int .i64 3)) cs) w')
  (hbusy:1≤kd→kd≤7→∀ (p:Nat) o,s=p→p<n→U p=some o→∀ w',Grown w w'→X Tryd.prog Final l Inb nG 0 (G (fr.finish (.int .i64 14)) cs) w')
  (hbeg:1≤kd→kd≤7→∀ p:Nat,s=p→p<n→U p=none→∀ w' (C:Ctx) H Inb',C.slot=(p:Int)→C.kd=kd→C.A=A→C.B=B→OnK kb C→C.o.gid=nG→Co kb (C.o::l) K (ConcN.upd L nG (some ⟨C,opStrat C p,[C.o.bo],H,[runFr C.o,bot]⟩)) r Inb' (nG+1) w'→(∀ k,Mn kb L w k→k≠b.bu→Mn kb (ConcN.upd L nG (some ⟨C,opStrat C p,[C.o.bo],H,[runFr C.o,bot]⟩)) w' k∧w'.heap[k]?=w.heap[k]?)→LibM kb (C.o::l) (ConcN.upd L nG (some ⟨C,opStrat C p,[C.o.bo],H,[runFr C.o,bot]⟩)) w' b n B0 (setO U p C.o) V N Xs→X Tryd.prog Final (C.o::l) Inb' (nG+1) 0 (G (fr.finish (.int .i64 0)) cs) w')(d0:Nat) :
  Must Tryd.prog true (DL true (sfO l)) (X Tryd.prog Final l Inb nG 0) (G ((base 17).at ⟨#[.pointer (some ⟨b.bl,0,none⟩),.int .i64 s,.agg #[.int .i64 kd,.int .i64 A,.int .i64 B],undef,undef,.pointer (some ⟨bx,0,none⟩),.int .i64 0,undef,undef,undef,undef,undef,undef,undef,undef,undef,undef,undef,undef,undef,undef,undef,undef,undef,undef,undef,undef,undef,undef,undef,undef,undef,undef,undef,undef,undef,undef,undef,undef,undef],[]⟩ [.code bgTail]) (fr::cs)) (w.at d0):=by
 subst hn
 have hc:=co.env.fit.clear
 have x0:w.cell? ⟨bx,0,none⟩=some (.int .i64 kd):=by simp only [World.cell?,hX];rfl
 have self:∀ d,Grown w (w.at d):=fun d=>⟨Nat.le_refl _,fun _ _=>rfl,hc⟩
 have tell:1≤kd→kd≤7→∀ p:Nat,s=p→p<K.nS→U p=none→∀ W,Grown w W→∀ d,Must Tryd.prog true (DL true (sfO l)) (X Tryd.prog Final l Inb nG 0) (G ((base 17).at ⟨#[.pointer (some ⟨b.bl,0,none⟩),.int .i64 p,.agg #[.int .i64 kd,.int .i64 A,.int .i64 B],undef,undef,.pointer (some ⟨bx,0,none⟩),.int .i64 0,.pointer (some ⟨bx,0,none⟩),.int .i64 kd,.bool false,.bool false,.pointer (some ⟨bx,0,none⟩),.int .i64 kd,.bool false,.bool false,.pointer (some ⟨b.bl,0,none⟩),.int .i64 p,.bool true,.bool false,.pointer (some ⟨b.bl,0,none⟩),.pointer (some ⟨b.bl,0,none⟩),.pointer (some ⟨b.bl,1,none⟩),.slice (some ⟨b.bu,0,none⟩) K.nS K.nS,.int .i64 p,.pointer (some ⟨b.bu,p,none⟩),.pointer none,.bool false,undef,undef,undef,undef,undef,undef,undef,undef,undef,undef,undef,undef,undef],[]⟩ [.code (.region 7 bgOps true),.code bgEnd]) (fr::cs)) (W.at d):=fun k1 k7 p hs hp hU W hW d =>
  bg_begin (co.grown hW) (lm.grown hW) h0 hp hU kd A B (hbx.grow hW.size) (by rw [hW.old _ hbx.lt];exact hX) fr cs (fun w' C H Inb' c1 c2 c3 c4 c5 c6 c7 c8 c9=>hbeg k1 k7 p hs hp hU w' C H Inb' c1 c2 c3 c4 c5 c6 c7 (fun k hM hk=>by
   obtain ⟨m1,m2⟩:=c8 k (hM.grow hW.size) hk
   exact ⟨m1,m2.trans (hW.old k hM.lt)⟩) c9) d
 clear hbeg
 unfold bgTail
 unfold bgEnd bgOps at tell
 simp only [Tryd.f17,pO] at *
 by_cases h1:kd<1
 ·have hx:=fun d=>hcall (.inl h1) (w.at d) (self d)
  clear hcall hno hbusy tell
  refine Br.liv_seq (fun d=>?_) _
  refine Br.liv_seq (fun d=>?_) _
  refine Br.liv_region (fun d=>?_) _
  simp only [Br.rz,Br.ix,Nat.reduceAdd]
  refine Br.mo rfl rfl hc (fun d K' hK=>?_) _
  go_simp
  refine hK _ _ ⟨rfl,?_⟩
  clear hK K'
  refine Br.mo rfl rfl hc (fun d K' hK=>?_) _
  have e0:(w.at d).cell? ⟨bx,0,none⟩=some (.int .i64 kd):=x0
  go_simp
  refine hK _ _ ⟨rfl,?_⟩
  clear hK K'
  refine Br.mo rfl rfl hc (fun d K' hK=>?_) _
  go_simp
  refine hK _ _ ⟨rfl,?_⟩
  clear hK K'
  refine Br.mo rfl rfl hc (fun d K' hK=>?_) _
  go_simp
  refine hK _ _ ⟨rfl,?_⟩
  clear hK K'
  refine Br.mc rfl (fun u=>stepG_unwanted rfl rfl) (fun d=>?_) _
  simp only [Act.put]
  try go_simp
  refine Br.mc rfl (fun u=>stepG_unwanted rfl rfl) (fun d=>?_) _
  simp only [Act.put]
  try go_simp
  refine Br.mc rfl (fun u=>stepG_unwanted rfl rfl) (fun d=>?_) _
  simp only [Act.put]
  try go_simp
  refine Br.mo rfl rfl hc (fun d K' hK=>?_) _
  go_simp
  refine hK _ _ ⟨rfl,?_⟩
  clear hK K'
  refine Br.liv_region_end (fun d=>?_) _
  refine Br.mc rfl (fun u=>stepG_cond (t:=true) rfl) (fun d=>?_) _
  simp only [if_true,if_false,Bool.false_eq_true,↓reduceIte]
  refine Br.liv_seq (fun d=>?_) _
  refine Br.liv_region (fun d=>?_) _
  simp only [Br.rz,Br.ix,Nat.reduceAdd]
  refine Br.mo rfl rfl hc (fun d K' hK=>?_) _
  go_simp
  refine hK _ _ ⟨rfl,?_⟩
  clear hK K'
  refine Br.liv_region_end (fun d=>?_) _
  refine Br.liv_ret (fun d=>?_) _
  exact Br.liv_leave (v:=.int .i64 2) rfl rfl Tryd.func17 (resultsC_tmp (t:=6) rfl _) (w:=w) (fun d=>.stop (hx d)) _
 by_cases h7:7<kd
 ·have hx:=fun d=>hcall (.inr h7) (w.at d) (self d)
  clear hcall hno hbusy tell
  refine Br.liv_seq (fun d=>?_) _
  refine Br.liv_seq (fun d=>?_) _
  refine Br.liv_region (fun d=>?_) _
  simp only [Br.rz,Br.ix,Nat.reduceAdd]
  refine Br.mo rfl rfl hc (fun d K' hK=>?_) _
  go_simp
  refine hK _ _ ⟨rfl,?_⟩
  clear hK K'
  refine Br.mo rfl rfl hc (fun d K' hK=>?_) _
  have e0:(w.at d).cell? ⟨bx,0,none⟩=some (.int .i64 kd):=x0
  go_simp
  refine hK _ _ ⟨rfl,?_⟩
  clear hK K'
  refine Br.mo rfl rfl hc (fun d K' hK=>?_) _
  go_simp
  refine hK _ _ ⟨rfl,?_⟩
  clear hK K'
  refine Br.mo rfl rfl hc (fun d K' hK=>?_) _
  go_simp
  refine hK _ _ ⟨rfl,?_⟩
  clear hK K'
  refine Br.mo rfl rfl hc (fun d K' hK=>?_) _
  go_simp
  refine hK _ _ ⟨rfl,?_⟩
  clear hK K'
  refine Br.mo rfl rfl hc (fun d K' hK=>?_) _
  have e0:(w.at d).cell? ⟨bx,0,none⟩=some (.int .i64 kd):=x0
  go_simp
  refine hK _ _ ⟨rfl,?_⟩
  clear hK K'
  refine Br.mo rfl rfl hc (fun d K' hK=>?_) _
  go_simp
  refine hK _ _ ⟨rfl,?_⟩
  clear hK K'
  refine Br.mo rfl rfl hc (fun d K' hK=>?_) _
  go_simp
  refine hK _ _ ⟨rfl,?_⟩
  clear hK K'
  refine Br.liv_region_end (fun d=>?_) _
  refine Br.mc rfl (fun u=>stepG_cond (t:=true) rfl) (fun d=>?_) _
  simp only [if_true,if_false,Bool.false_eq_true,↓reduceIte]
  refine Br.liv_seq (fun d=>?_) _
  refine Br.liv_region (fun d=>?_) _
  simp only [Br.rz,Br.ix,Nat.reduceAdd]
  refine Br.mo rfl rfl hc (fun d K' hK=>?_) _
  go_simp
  refine hK _ _ ⟨rfl,?_⟩
  clear hK K'
  refine Br.liv_region_end (fun d=>?_) _
  refine Br.liv_ret (fun d=>?_) _
  exact Br.liv_leave (v:=.int .i64 2) rfl rfl Tryd.func17 (resultsC_tmp (t:=6) rfl _) (w:=w) (fun d=>.stop (hx d)) _
 have k1:1≤kd:=by omega
 have k7:kd≤7:=by omega
 have tell:=tell k1 k7
 have hno:=hno k1 k7
 have hbusy:=hbusy k1 k7
 clear hcall k1 k7
 refine Br.liv_seq (fun d=>?_) _
 refine Br.liv_seq (fun d=>?_) _
 refine Br.liv_region (fun d=>?_) _
 simp only [Br.rz,Br.ix,Nat.reduceAdd]
 refine Br.mo rfl rfl hc (fun d K' hK=>?_) _
 go_simp
 refine hK _ _ ⟨rfl,?_⟩
 clear hK K'
 refine Br.mo rfl rfl hc (fun d K' hK=>?_) _
 have e0:(w.at d).cell? ⟨bx,0,none⟩=some (.int .i64 kd):=x0
 go_simp
 refine hK _ _ ⟨rfl,?_⟩
 clear hK K'
 refine Br.mo rfl rfl hc (fun d K' hK=>?_) _
 go_simp
 refine hK _ _ ⟨rfl,?_⟩
 clear hK K'
 refine Br.mo rfl rfl hc (fun d K' hK=>?_) _
 go_simp
 refine hK _ _ ⟨rfl,?_⟩
 clear hK K'
 refine Br.mo rfl rfl hc (fun d K' hK=>?_) _
 go_simp
 refine hK _ _ ⟨rfl,?_⟩
 clear hK K'
 refine Br.mo rfl rfl hc (fun d K' hK=>?_) _
 have e0:(w.at d).cell? ⟨bx,0,none⟩=some (.int .i64 kd):=x0
 go_simp
 refine hK _ _ ⟨rfl,?_⟩
 clear hK K'
 refine Br.mo rfl rfl hc (fun d K' hK=>?_) _
 go_simp
 refine hK _ _ ⟨rfl,?_⟩
 clear hK K'
 refine Br.mo rfl rfl hc (fun d K' hK=>?_) _
 go_simp
 refine hK _ _ ⟨rfl,?_⟩
 clear hK K'
 refine Br.liv_region_end (fun d=>?_) _
 refine Br.mc rfl (fun u=>stepG_cond (t:=false) rfl) (fun d=>?_) _
 simp only [if_true,if_false,Bool.false_eq_true,↓reduceIte]
 refine Br.liv_skip (fun d=>?_) _
 refine Br.liv_seq (fun d=>?_) _
 refine Br.liv_seq (fun d=>?_) _
 refine Br.liv_region (fun d=>?_) _
 simp only [Br.rz,Br.ix,Nat.reduceAdd]
 refine Br.mo rfl rfl hc (fun d K' hK=>?_) _
 go_simp
 refine hK _ _ ⟨rfl,?_⟩
 clear hK K'
 refine Br.mo rfl rfl hc (fun d K' hK=>?_) _
 go_simp
 refine hK _ _ ⟨rfl,?_⟩
 clear hK K'
 refine Br.mc rfl (fun u=>stepG_call rfl rfl (by decide) rfl Tryd.func40 rfl rfl (vs:=#[.pointer (some ⟨b.bl,0,none⟩),.int .i64 s]) (by simp [Act.eval]) u) (fun d=>?_) _
 refine (must_isProcess co lm.m s _ _ d).then ?_
 rintro g W ⟨rfl,hW⟩
 have hc:=hW.clear
 have lmW:=lm.m.grown hW
 rw [Frame.finish_at,show W=W.at W.drawn from rfl]
 generalize W.drawn=dw
 cases hb:(decide (0≤s) && decide (s<(K.nS:Int))) with
 | false =>
  have hx:=fun d=>hno hb (W.at d) (hW.at d)
  clear hno hbusy tell lmW
  simp only [Act.put]
  go_simp
  refine Br.mo rfl rfl hc (fun d K' hK=>?_) _
  go_simp
  refine hK _ _ ⟨rfl,?_⟩
  clear hK K'
  refine Br.liv_region_end (fun d=>?_) _
  refine Br.mc rfl (fun u=>stepG_cond (t:=true) rfl) (fun d=>?_) _
  simp only [if_true,if_false,Bool.false_eq_true,↓reduceIte]
  refine Br.liv_seq (fun d=>?_) _
  refine Br.liv_region (fun d=>?_) _
  simp only [Br.rz,Br.ix,Nat.reduceAdd]
  refine Br.mo rfl rfl hc (fun d K' hK=>?_) _
  go_simp
  refine hK _ _ ⟨rfl,?_⟩
  clear hK K'
  refine Br.liv_region_end (fun d=>?_) _
  refine Br.liv_ret (fun d=>?_) _
  exact Br.liv_leave (v:=.int .i64 3) rfl rfl Tryd.func17 (resultsC_tmp (t:=6) rfl _) (w:=W) (fun d=>.stop (hx d)) _
 | true =>
  simp only [Bool.and_eq_true,decide_eq_true_eq] at hb
  obtain ⟨p,rfl⟩:∃ p:Nat,s=p:=⟨s.toNat,by omega⟩
  have hp:p<K.nS:=by omega
  have i0:(0:Int)≤(p:Int):=by omega
  have i1:(p:Int)<(K.nS:Int):=by omega
  have k1:=lmW.is.k1
  have cu:=lmW.is.u.cell hp
  cases hU:U p with
  | none =>
   have tl:=fun d=>tell p rfl hp hU W hW d
   rw [hU] at cu
   have cu':W.cell? ⟨b.bu,p,none⟩=some (.pointer none):=cu
   clear hno hbusy tell cu lmW
   simp only [Act.put]
   go_simp
   refine Br.mo rfl rfl hc (fun d K' hK=>?_) _
   go_simp
   refine hK _ _ ⟨rfl,?_⟩
   clear hK K'
   refine Br.liv_region_end (fun d=>?_) _
   refine Br.mc rfl (fun u=>stepG_cond (t:=false) rfl) (fun d=>?_) _
   simp only [if_true,if_false,Bool.false_eq_true,↓reduceIte]
   refine Br.liv_skip (fun d=>?_) _
   refine Br.liv_seq (fun d=>?_) _
   refine Br.liv_seq (fun d=>?_) _
   refine Br.liv_region (fun d=>?_) _
   simp only [Br.rz,Br.ix,Nat.reduceAdd]
   refine Br.mo rfl rfl hc (fun d K' hK=>?_) _
   go_simp
   refine hK _ _ ⟨rfl,?_⟩
   clear hK K'
   refine Br.mo rfl rfl hc (fun d K' hK=>?_) _
   go_simp
   refine hK _ _ ⟨rfl,?_⟩
   clear hK K'
   refine Br.mo rfl rfl hc (fun d K' hK=>?_) _
   go_simp
   refine hK _ _ ⟨rfl,?_⟩
   clear hK K'
   refine Br.mo rfl rfl hc (fun d K' hK=>?_) _
   have e1:(W.at d).cell? ⟨b.bl,1,none⟩=some (.slice (some ⟨b.bu,0,none⟩) K.nS K.nS):=k1
   go_simp
   refine hK _ _ ⟨rfl,?_⟩
   clear hK K'
   refine Br.mo rfl rfl hc (fun d K' hK=>?_) _
   go_simp
   refine hK _ _ ⟨rfl,?_⟩
   clear hK K'
   refine Br.mo rfl rfl hc (fun d K' hK=>?_) _
   go_simp
   refine hK _ _ ⟨rfl,?_⟩
   clear hK K'
   refine Br.mo rfl rfl hc (fun d K' hK=>?_) _
   have e2:(W.at d).cell? ⟨b.bu,p,none⟩=some (.pointer none):=cu'
   go_simp
   refine hK _ _ ⟨rfl,?_⟩
   clear hK K'
   refine Br.mo rfl rfl hc (fun d K' hK=>?_) _
   go_simp
   refine hK _ _ ⟨rfl,?_⟩
   clear hK K'
   refine Br.liv_region_end (fun d=>?_) _
   refine Br.mc rfl (fun u=>stepG_cond (t:=false) rfl) (fun d=>?_) _
   simp only [if_true,if_false,Bool.false_eq_true,↓reduceIte]
   refine Br.liv_skip (fun d=>?_) _
   refine Br.liv_seq (fun d=>?_) _
   exact tl _
  | some o =>
   have hx:=fun d=>hbusy p o rfl hp hU (W.at d) (hW.at d)
   rw [hU] at cu
   have cu':W.cell? ⟨b.bu,p,none⟩=some (.pointer (some ⟨o.bo,0,none⟩)):=cu
   clear hno hbusy tell cu lmW
   simp only [Act.put]
   go_simp
   refine Br.mo rfl rfl hc (fun d K' hK=>?_) _
   go_simp
   refine hK _ _ ⟨rfl,?_⟩
   clear hK K'
   refine Br.liv_region_end (fun d=>?_) _
   refine Br.mc rfl (fun u=>stepG_cond (t:=false) rfl) (fun d=>?_) _
   simp only [if_true,if_false,Bool.false_eq_true,↓reduceIte]
   refine Br.liv_skip (fun d=>?_) _
   refine Br.liv_seq (fun d=>?_) _
   refine Br.liv_seq (fun d=>?_) _
   refine Br.liv_region (fun d=>?_) _
   simp only [Br.rz,Br.ix,Nat.reduceAdd]
   refine Br.mo rfl rfl hc (fun d K' hK=>?_) _
   go_simp
   refine hK _ _ ⟨rfl,?_⟩
   clear hK K'
   refine Br.mo rfl rfl hc (fun d K' hK=>?_) _
   go_simp
   refine hK _ _ ⟨rfl,?_⟩
   clear hK K'
   refine Br.mo rfl rfl hc (fun d K' hK=>?_) _
   go_simp
   refine hK _ _ ⟨rfl,?_⟩
   clear hK K'
   refine Br.mo rfl rfl hc (fun d K' hK=>?_) _
   have e1:(W.at d).cell? ⟨b.bl,1,none⟩=some (.slice (some ⟨b.bu,0,none⟩) K.nS K.nS):=k1
   go_simp
   refine hK _ _ ⟨rfl,?_⟩
   clear hK K'
   refine Br.mo rfl rfl hc (fun d K' hK=>?_) _
   go_simp
   refine hK _ _ ⟨rfl,?_⟩
   clear hK K'
   refine Br.mo rfl rfl hc (fun d K' hK=>?_) _
   go_simp
   refine hK _ _ ⟨rfl,?_⟩
   clear hK K'
   refine Br.mo rfl rfl hc (fun d K' hK=>?_) _
   have e2:(W.at d).cell? ⟨b.bu,p,none⟩=some (.pointer (some ⟨o.bo,0,none⟩)):=cu'
   go_simp
   refine hK _ _ ⟨rfl,?_⟩
   clear hK K'
   refine Br.mo rfl rfl hc (fun d K' hK=>?_) _
   go_simp
   refine hK _ _ ⟨rfl,?_⟩
   clear hK K'
   refine Br.liv_region_end (fun d=>?_) _
   refine Br.mc rfl (fun u=>stepG_cond (t:=true) rfl) (fun d=>?_) _
   simp only [if_true,if_false,Bool.false_eq_true,↓reduceIte]
   refine Br.liv_seq (fun d=>?_) _
   refine Br.liv_region (fun d=>?_) _
   simp only [Br.rz,Br.ix,Nat.reduceAdd]
   refine Br.mo rfl rfl hc (fun d K' hK=>?_) _
   go_simp
   refine hK _ _ ⟨rfl,?_⟩
   clear hK K'
   refine Br.liv_region_end (fun d=>?_) _
   refine Br.liv_ret (fun d=>?_) _
   exact Br.liv_leave (v:=.int .i64 14) rfl rfl Tryd.func17 (resultsC_tmp (t:=6) rfl _) (w:=W) (fun d=>.stop (hx d)) _
noncomputable def BeginBody:Code:=(Tryd.f17.body).getD .skip
theorem Begin_enter (k0 x y:Value):Frame.enter Tryd.prog 17 #[k0,x,y] .normal=(base 17).at ⟨#[k0,x,y,undef,undef,undef,undef,undef,undef,undef,undef,undef,undef,undef,undef,undef,undef,undef,undef,undef,undef,undef,undef,undef,undef,undef,undef,undef,undef,undef,undef,undef,undef,undef,undef,undef,undef,undef,undef,undef],[]⟩ [.code BeginBody]:=by
 rw [enter_at (c:=BeginBody) _ Tryd.func17 rfl]
 refine congrArg (fun t=>(base 17).at ⟨t,[]⟩ [.code BeginBody]) ?_
 kernel_rfl
theorem main_Begin (co:Co kb l K L r Inb nG w){n:Nat}(hn:K.nS=n)(lm:LibM kb l L w b n B0 U V N Xs)(h0:0<nG)(s kd A B:Int)(fr:Frame)(cs:List Frame)
  (hcall:(kd<1∨7<kd)→∀ w',Grown w w'→X Tryd.prog Final l Inb nG 0 (G (fr.finish (.int .i64 2)) cs) w')
  (hno:1≤kd→kd≤7→(decide (0≤s) && decide (s<(n:Int)))=false→∀ w',Grown w w'→X Tryd.prog Final l Inb nG 0 (G (fr.finish (.int .i64 3)) cs) w')
  (hbusy:1≤kd→kd≤7→∀ (p:Nat) o,s=p→p<n→U p=some o→∀ w',Grown w w'→X Tryd.prog Final l Inb nG 0 (G (fr.finish (.int .i64 14)) cs) w')
  (hbeg:1≤kd→kd≤7→∀ p:Nat,s=p→p<n→U p=none→∀ w' (C:Ctx) H Inb',C.slot=(p:Int)→C.kd=kd→C.A=A→C.B=B→OnK kb C→C.o.gid=nG→Co kb (C.o::l) K (ConcN.upd L nG (some ⟨C,opStrat C p,[C.o.bo],H,[runFr C.o,bot]⟩)) r Inb' (nG+1) w'→(∀ k,Mn kb L w k→k≠b.bu→Mn kb (ConcN.upd L nG (some ⟨C,opStrat C p,[C.o.bo],H,[runFr C.o,bot]⟩)) w' k∧w'.heap[k]?=w.heap[k]?)→LibM kb (C.o::l) (ConcN.upd L nG (some ⟨C,opStrat C p,[C.o.bo],H,[runFr C.o,bot]⟩)) w' b n B0 (setO U p C.o) V N Xs→X Tryd.prog Final (C.o::l) Inb' (nG+1) 0 (G (fr.finish (.int .i64 0)) cs) w') :
  X Tryd.prog Final l Inb nG 0 (G (Frame.enter Tryd.prog 17 #[.pointer (some ⟨b.bl,0,none⟩),.int .i64 s,.agg #[.int .i64 kd,.int .i64 A,.int .i64 B]] .normal) (fr::cs)) w:=by
 have rest:∀ W,Grown w W→W.heap[w.heap.size]?=some (.cells #[.int .i64 kd,.int .i64 A,.int .i64 B] 38 (0,0))→W.heap.size=w.heap.size+1→∀ d,Must Tryd.prog true (DL true (sfO l)) (X Tryd.prog Final l Inb nG 0) (G ((base 17).at ⟨#[.pointer (some ⟨b.bl,0,none⟩),.int .i64 s,.agg #[.int .i64 kd,.int .i64 A,.int .i64 B],undef,undef,.pointer (some ⟨w.heap.size,0,none⟩),.int .i64 0,undef,undef,undef,undef,undef,undef,undef,undef,undef,undef,undef,undef,undef,undef,undef,undef,undef,undef,undef,undef,undef,undef,undef,undef,undef,undef,undef,undef,undef,undef,undef,undef,undef],[]⟩ [.code bgTail]) (fr::cs)) (W.at d):=fun W hW hX hz d =>
  bg_rest (bx:=w.heap.size) (co.grown hW) hn (lm.grown hW) h0 s kd A B (co.new (w':=W) (Nat.le_refl _) (by omega)).mn hX fr cs (fun h w' hg=>hcall h w' (hW.trans hg)) (fun h1 h2 h w' hg=>hno h1 h2 h w' (hW.trans hg)) (fun h1 h2 p o hs hp hU w' hg=>hbusy h1 h2 p o hs hp hU w' (hW.trans hg)) (fun h1 h2 p hs hp hU w' C H Inb' c1 c2 c3 c4 c5 c6 c7 c8 c9=>hbeg h1 h2 p hs hp hU w' C H Inb' c1 c2 c3 c4 c5 c6 c7 (fun k hM hk=>by
   obtain ⟨m1,m2⟩:=c8 k (hM.grow hW.size) hk
   exact ⟨m1,m2.trans (hW.old k hM.lt)⟩) c9) d
 clear hcall hno hbusy hbeg
 rw [Begin_enter]
 unfold bgTail at rest
 simp only [BeginBody,Tryd.f17,Option.getD_some] at *
 refine Br.x_must (st:=true) ?_
 show Must Tryd.prog true (DL true (sfO l)) _ _ (w.at w.drawn)
 generalize w.drawn=dz
 have hc:=co.env.fit.clear
 refine Br.liv_seq (fun d=>?_) _
 refine Br.liv_region (fun d=>?_) _
 simp only [Br.rz,Br.ix,Nat.reduceAdd]
 refine Br.must_operW rfl rfl (by decide) (fun d K' hK=>?_) _
 go_simp
 refine hK _ _ ⟨Br.dl_alloc (fun e he=>?_),?_⟩
 ·have hm:=mem_listed he
  simp [go_sem] at hm
 clear hK K'
 refine must_new trivial hc (fun W hg hX hz d=>?_)
 have hc2:=hg.clear
 refine Br.mo rfl rfl hc2 (fun d K' hK=>?_) _
 go_simp
 refine hK _ _ ⟨rfl,?_⟩
 clear hK K'
 refine Br.liv_region_end (fun d=>?_) _
 exact rest W hg hX hz _
end
end Go.Proofs.YtcgabodkegcpgaaDoor
