/- Cancel in company. -/
import Derived.Test.YtcgabodkegcpgaaDoorMco
import Derived.Conc.Beside
import Derived.Conc.LeavingOf
import Derived.Test.YtcgabodkegcpgaaDoorRpp
import Derived.Deep.RegionLaw
import Derived.Test.YtcgabodkegcpgaaDoorMck
set_option linter.unusedVariables false
set_option linter.unusedSimpArgs false
set_option maxHeartbeats 20000000
set_option maxRecDepth 100000
namespace Go.Proofs.YtcgabodkegcpgaaDoor
open Go.Conc Go.RowKit
open Br (X OpD KO SO SP sfO Lk Fit Must DL Liv Clear)
section
variable {kb:Kb} {l:List OpD} {K:Ker} {L:Nat→Option Lv} {r:Nat} {Inb:Nat→Option Seat} {nG:Nat} {w w':World} {v:Lv} {Final:Machine→Trace→Prop} {b:Lb} {n B0:Nat} {U:Nat→Option OpD} {V:Nat→Value} {N:Nat→Nat} {Xs:Nat→List Value}
theorem lib_clear (co:Co kb l K L r Inb nG w)(lm:LibM0 kb l L w b n B0 U V N Xs){p:Nat}(hp:p<n)(hlive:∀ q,q<n→q≠p→∀ o,U q=some o→∃ v,L o.gid=some v∧v.C.o=o∧v.C.slot=q) :
  Co kb l K L r Inb nG (w.setCell ⟨b.bu,p,none⟩ (.pointer none))∧LibM kb l L (w.setCell ⟨b.bu,p,none⟩ (.pointer none)) b n B0 (setU U p) V N Xs∧(∀ k,k≠b.bu→(w.setCell ⟨b.bu,p,none⟩ (.pointer none)).heap[k]?=w.heap[k]?)∧(w.setCell ⟨b.bu,p,none⟩ (.pointer none)).heap.size=w.heap.size:=by
 have e1:∀ k,k≠b.bu→(w.setCell ⟨b.bu,p,none⟩ (.pointer none)).heap[k]?=w.heap[k]?:=fun k hk=>by rw [Br.heap_setCell,if_neg (fun e=>hk e.symm)]
 have z1:(w.setCell ⟨b.bu,p,none⟩ (.pointer none)).heap.size=w.heap.size:=by simp [World.setCell]
 have u1:=lm.is.u.set hp (.pointer none)
 have cl1:Clear (w.setCell ⟨b.bu,p,none⟩ (.pointer none)):=(Br.lk_setCell co.env.fit.clear.lk (Nat.zero_le _) _).1.sight
 generalize w.setCell ⟨b.bu,p,none⟩ (.pointer none)=w1 at *
 obtain ⟨ne1,ne2,ne3,lb1,lb2,lb3⟩:=lm.is.ne
 have lsne:∀ q,q<n→∀ x,(V q).ownBlock=some x→x≠b.bu:=fun q hq x hx=>by have:=(owns_lt (lm.is.own q hq) hx).1;omega
 refine ⟨co.wrote (by omega) cl1 (fun k hk h=>e1 k (fun e=>h (e▸lm.mbu))),⟨⟨⟨(World.cell?_of_block (w:=w) (e1 _ ne1)).trans lm.is.k0,(World.cell?_of_block (w:=w) (e1 _ ne1)).trans lm.is.k1,(World.cell?_of_block (w:=w) (e1 _ ne1)).trans lm.is.k2,?_,lm.is.d.of (e1 _ (Ne.symm ne3)),fun q hq=>owns_same (lm.is.own q hq) (fun x hx=>e1 x (lsne q hq x hx)),lm.is.far,lm.is.ne,lm.is.small⟩,lm.mbl.grow (by omega),lm.mbu.grow (by omega),lm.mbn.grow (by omega),fun q hq x hx=>(lm.mls q hq x hx).grow (by omega),lm.b0⟩,fun q hq o' ho'=>?_⟩,e1,z1⟩
 ·obtain ⟨c,t',a1,a2,a3⟩:=u1
  refine ⟨c,t',a1,a2,fun q hq=>?_⟩
  rw [a3 q hq]
  by_cases e:q=p
  ·simp only [setU,e,if_true];rfl
  ·simp only [setU,e,if_false]
 ·by_cases e:q=p
  ·simp only [setU,e,if_true] at ho';cases ho'
  ·simp only [setU,e,if_false] at ho'
   exact hlive q hq e o' ho'
noncomputable def cnRest:List Item :=
 match Tryd.f20.body with
 | some (.seq _ (.block i (.loop c)))=>[.code c,.inLoop c,.inBlock i]
 | _=>[]
noncomputable def cnCall:List Item :=
 match Tryd.f20.body with
 | some (.seq _ (.block i (.loop (.seq c1 (.seq c2 (.seq (.block i2 (.seq c3 (.seq c4 (.cond t (.seq (.region _ ops _) c5) c6)))) c7))))))=>[.inRegion ops [1],.code c5,.inBlock i2,.code c7,.inLoop (.seq c1 (.seq c2 (.seq (.block i2 (.seq c3 (.seq c4 (.cond t (.seq (.region 4 ops false) c5) c6)))) c7))),.inBlock i]
 | _=>[]
theorem cancel_loop (fr:Frame)(cs:List Frame)(L0:Nat→Option Lv)(U0:Nat→Option OpD)(w0:World)
  (hx:∀ L' Inb' w',Co kb l K L' r Inb' nG w'→LibM kb l L' w' b n B0 (fun _=>none) V N Xs→(∀ k,Mn kb L0 w0 k→k≠b.bu→Mn kb L' w' k∧w'.heap[k]?=w0.heap[k]?)→(∀ g v,L' g=some v→L0 g=some v∧∀ p,p<n→U0 p≠some v.C.o)→X Tryd.prog Final l Inb' nG 0 (G (fr.finish (.tuple #[])) cs) w') :
  ∀ (f i:Nat),i+f=n→∀ (U:Nat→Option OpD) (L:Nat→Option Lv) (Inb:Nat→Option Seat) (w:World),Co kb l K L r Inb nG w→LibM kb l L w b n B0 U V N Xs→(∀ q,q<i→U q=none)→(∀ q,i≤q→U q=U0 q)→(∀ k,Mn kb L0 w0 k→k≠b.bu→Mn kb L w k∧w.heap[k]?=w0.heap[k]?)→(∀ g v,L g=some v→L0 g=some v∧∀ p,p<i→U0 p≠some v.C.o)→∀ (j2 j3 j10 j11 j12 j13 j14 j15 j16 j17 j18 j19 j20 j21 j22 j23 j24:Value) (d:Nat),
  Must Tryd.prog true (DL true (sfO l)) (X Tryd.prog Final l Inb nG 0) (G ((base 20).at ⟨#[.pointer (some ⟨b.bl,0,none⟩),undef,j2,j3,.pointer (some ⟨b.bl,0,none⟩),.pointer (some ⟨b.bl,0,none⟩),.pointer (some ⟨b.bl,1,none⟩),.slice (some ⟨b.bu,0,none⟩) n n,.int .i64 n,.int .i64 i,j10,j11,j12,j13,j14,j15,j16,j17,j18,j19,j20,j21,j22,j23,j24],[]⟩ cnRest) (fr::cs)) (w.at d):=by
 intro f
 induction f with
 | zero =>
  intro i hi U L Inb w co lm hU1 hU2 hk hL j2 j3 j10 j11 j12 j13 j14 j15 j16 j17 j18 j19 j20 j21 j22 j23 j24 d0
  obtain rfl:i=n:=by omega
  have hc:=co.env.fit.clear
  have hx:∀ d,X Tryd.prog Final l Inb nG 0 (G (fr.finish (.tuple #[])) cs) (w.at d):=fun d=>by
   refine hx L Inb (w.at d) (co.at d) ?_ (fun k h1 h2=>by obtain ⟨m1,m2⟩:=hk k h1 h2;exact ⟨⟨m1.lt,m1.nf,m1.ns,m1.nd,m1.own⟩,m2⟩) hL
   have lm2:=lm.grown (w':=w.at d) ⟨Nat.le_refl _,fun _ _=>rfl,hc⟩
   refine ⟨⟨⟨lm2.m.is.k0,lm2.m.is.k1,lm2.m.is.k2,?_,lm2.m.is.d,lm2.m.is.own,lm2.m.is.far,lm2.m.is.ne,lm2.m.is.small⟩,lm2.m.mbl,lm2.m.mbu,lm2.m.mbn,lm2.m.mls,lm2.m.b0⟩,fun q _ o h=>by cases h⟩
   obtain ⟨c,t,a1,a2,a3⟩:=lm2.m.is.u
   exact ⟨c,t,a1,a2,fun q hq=>by rw [a3 q hq];simp only [hU1 q hq]⟩
  clear lm
  unfold cnRest
  simp only [Tryd.f20]
  refine Br.liv_seq (fun d=>?_) _
  refine Br.liv_region (fun d=>?_) _
  simp only [Br.rz,Br.ix,Nat.reduceAdd]
  refine Br.mo rfl rfl hc (fun d K' hK=>?_) _
  go_simp
  refine hK _ _ ⟨rfl,?_⟩
  clear hK K'
  refine Br.liv_region_end (fun d=>?_) _
  refine Br.liv_seq (fun d=>?_) _
  refine Br.mc rfl (fun u=>stepG_cond (t:=false) (by simp [Act.eval])) (fun d=>?_) _
  simp only [if_false,Bool.false_eq_true]
  refine Br.mc rfl (fun u=>stepG_exit rfl) (fun d=>?_) _
  refine Br.mc rfl (fun u=>stepG_end) (fun d=>?_) _
  exact Br.liv_leave (v:=.tuple #[]) rfl rfl Tryd.func20 (resultsC_none rfl _) (w:=w) (fun d=>.stop (hx d)) _
 | succ f ih =>
  intro i hi U L Inb w co lm hU1 hU2 hk hL j2 j3 j10 j11 j12 j13 j14 j15 j16 j17 j18 j19 j20 j21 j22 j23 j24 d0
  have hlt:i<n:=by omega
  have hlt':(i:Int)<(n:Int):=by omega
  have i0:(0:Int)≤(i:Int):=by omega
  have hc:=co.env.fit.clear
  have k1:=lm.m.is.k1
  have cu:=lm.m.is.u.cell hlt
  have nsm:=lm.m.is.small
  cases hU:U i with
  | none =>
   have ih':=ih (i+1) (by omega) U L Inb w co lm (fun q hq=>by
    rcases Nat.lt_or_ge q i with h|h
    ·exact hU1 q h
    ·obtain rfl:q=i:=by omega
     exact hU) (fun q hq=>hU2 q (by omega)) hk (fun g v hv=>⟨(hL g v hv).1,fun p hp=>by
    rcases Nat.lt_or_ge p i with h|h
    ·exact (hL g v hv).2 p h
    ·obtain rfl:p=i:=by omega
     rw [← hU2 p (Nat.le_refl _),hU];exact fun h=>by cases h⟩)
   rw [hU] at cu
   have cu':w.cell? ⟨b.bu,i,none⟩=some (.pointer none):=cu
   clear cu ih hx
   unfold cnRest at *
   simp only [Tryd.f20] at *
   refine Br.liv_seq (fun d=>?_) _
   refine Br.liv_region (fun d=>?_) _
   simp only [Br.rz,Br.ix,Nat.reduceAdd]
   refine Br.mo rfl rfl hc (fun d K' hK=>?_) _
   go_simp
   refine hK _ _ ⟨rfl,?_⟩
   clear hK K'
   refine Br.liv_region_end (fun d=>?_) _
   refine Br.liv_seq (fun d=>?_) _
   refine Br.mc rfl (fun u=>stepG_cond (t:=true) (by simp [Act.eval,hlt])) (fun d=>?_) _
   simp only [if_true]
   refine Br.liv_skip (fun d=>?_) _
   refine Br.liv_seq (fun d=>?_) _
   refine Br.mc rfl (fun u=>stepG_block) (fun d=>?_) _
   refine Br.liv_seq (fun d=>?_) _
   refine Br.liv_region (fun d=>?_) _
   simp only [Br.rz,Br.ix,Nat.reduceAdd]
   refine Br.mo rfl rfl hc (fun d K' hK=>?_) _
   go_simp
   refine hK _ _ ⟨rfl,?_⟩
   clear hK K'
   refine Br.mo rfl rfl hc (fun d K' hK=>?_) _
   go_simp
   refine hK _ _ ⟨rfl,?_⟩
   clear hK K'
   refine Br.mo rfl rfl hc (fun d K' hK=>?_) _
   have e2:(w.at d).cell? ⟨b.bu,i,none⟩=some (.pointer none):=cu'
   go_simp
   refine hK _ _ ⟨rfl,?_⟩
   clear hK K'
   refine Br.mo rfl rfl hc (fun d K' hK=>?_) _
   go_simp
   refine hK _ _ ⟨rfl,?_⟩
   clear hK K'
   refine Br.mo rfl rfl hc (fun d K' hK=>?_) _
   go_simp
   refine hK _ _ ⟨rfl,?_⟩
   clear hK K'
   refine Br.liv_region_end (fun d=>?_) _
   refine Br.liv_seq (fun d=>?_) _
   refine Br.liv_region (fun d=>?_) _
   simp only [Br.rz,Br.ix,Nat.reduceAdd]
   refine Br.mo rfl rfl hc (fun d K' hK=>?_) _
   go_simp
   refine hK _ _ ⟨rfl,?_⟩
   clear hK K'
   refine Br.mo rfl rfl hc (fun d K' hK=>?_) _
   go_simp
   refine hK _ _ ⟨rfl,?_⟩
   clear hK K'
   refine Br.liv_region_end (fun d=>?_) _
   refine Br.mc rfl (fun u=>stepG_cond (t:=false) rfl) (fun d=>?_) _
   simp only [if_true,if_false,Bool.false_eq_true,↓reduceIte]
   refine Br.liv_skip (fun d=>?_) _
   refine Br.mc rfl (fun u=>stepG_inBlock) (fun d=>?_) _
   refine Br.liv_region (fun d=>?_) _
   simp only [Br.rz,Br.ix,Nat.reduceAdd]
   refine Br.mo rfl rfl hc (fun d K' hK=>?_) _
   go_simp
   refine hK _ _ ⟨rfl,?_⟩
   clear hK K'
   refine Br.mo rfl rfl hc (fun d K' hK=>?_) _
   go_simp
   refine hK _ _ ⟨rfl,?_⟩
   clear hK K'
   refine Br.liv_region_end (fun d=>?_) _
   refine Br.mc rfl (fun u=>stepG_inLoop) (fun d=>?_) _
   rw [wrap_small (by omega) (by omega),show ((i:Int)+1)=((i+1:Nat):Int) from by simp]
   exact ih' _ _ _ _ _ _ _ _ _ _ _ _ _ _ _ _ _ _
  | some o =>
   obtain ⟨v,hv,rfl,hsl⟩:=lm.live i hlt o hU
   have after:∀ (j17 j18 j19 j20 j21 j22 j23 j24:Value) d,X Tryd.prog Final l Inb nG 0 (G (Frame.enter Tryd.prog 44 #[pO v.C.o] .normal) ((base 20).at ⟨#[.pointer (some ⟨b.bl,0,none⟩),undef,.int .i64 i,pO v.C.o,.pointer (some ⟨b.bl,0,none⟩),.pointer (some ⟨b.bl,0,none⟩),.pointer (some ⟨b.bl,1,none⟩),.slice (some ⟨b.bu,0,none⟩) n n,.int .i64 n,.int .i64 i,.bool true,.int .i64 i,.pointer (some ⟨b.bu,i,none⟩),pO v.C.o,pO v.C.o,.bool true,pO v.C.o,j17,j18,j19,j20,j21,j22,j23,j24],[]⟩ cnCall::fr::cs)) (w.at d):=by
    intro j17 j18 j19 j20 j21 j22 j23 j24 d
    refine main_cancel (co.at d) hv _ _ (fun w' Inb' h1 h2=>?_)
    have h2':Kp kb L w (ConcN.upd L v.C.o.gid none) w':=fun k hM=>h2 k ⟨hM.lt,hM.nf,hM.ns,hM.nd,hM.own⟩
    have lm0:=lm.m.turn h2'
    obtain ⟨co2,lm2,e1,z1⟩:=lib_clear h1 lm0 hlt (fun q hq e o' ho'=>by
     obtain ⟨u,hu,he,hsl'⟩:=lm.live q hq o' ho'
     have eg:o'.gid≠v.C.o.gid:=fun eg=>by
      rw [eg,hv] at hu
      obtain rfl:=Option.some.inj hu
      rw [hsl] at hsl'
      exact e (by exact_mod_cast hsl'.symm)
     exact ⟨u,by rw [ConcN.upd_ne _ _ eg];exact hu,he,hsl'⟩)
    have cl2:=co2.env.fit.clear
    have k12:=lm0.is.k1
    have cu2:w'.cell? ⟨b.bu,i,none⟩=some (ptrU (some v.C.o)):=by have:=lm0.is.u.cell hlt;rw [hU] at this;exact this
    have zu2:=lm0.is.u.frozen i
    have sfu:=lm0.mbu.sf
    have hc:=h1.env.fit.clear
    have ih':=ih (i+1) (by omega) (setU U i) _ Inb' _ co2 lm2 (fun q hq=>by
     by_cases e:q=i
     ·simp only [setU,e,if_true]
     ·simp only [setU,e,if_false];exact hU1 q (by omega)) (fun q hq=>by simp only [setU,show q≠i by omega,if_false];exact hU2 q (by omega)) (fun k hk1 hk2=>by
     obtain ⟨m1,m2⟩:=hk k hk1 hk2
     obtain ⟨m3,m4⟩:=h2' k m1
     exact ⟨⟨by rw [z1];exact m3.lt,m3.nf,m3.ns,m3.nd,m3.own⟩,(e1 k hk2).trans (m4.trans m2)⟩) (fun g u hu=>by
     by_cases eg:g=v.C.o.gid
     ·rw [eg,ConcN.upd_same] at hu;cases hu
     ·rw [ConcN.upd_ne _ _ eg] at hu
      refine ⟨(hL g u hu).1,fun p hp=>?_⟩
      rcases Nat.lt_or_ge p i with h|h
      ·exact (hL g u hu).2 p h
      ·obtain rfl:p=i:=by omega
       rw [← hU2 p (Nat.le_refl _),hU]
       intro h
       have h':=Option.some.inj h
       exact eg (by rw [h'];exact ((co.gid g u hu).1).symm))
    clear co2 lm2 lm0 h1 h2 h2' ih hx
    unfold cnRest at ih'
    unfold cnCall
    simp only [Tryd.f20] at *
    rw [Frame.finish_at]
    refine Br.x_must (st:=true) ?_
    show Must Tryd.prog true (DL true (sfO l)) _ _ (w'.at w'.drawn)
    generalize w'.drawn=dz
    simp only [Act.put]
    go_simp
    refine Br.liv_region_end (fun d=>?_) _
    refine Br.liv_region (fun d=>?_) _
    simp only [Br.rz,Br.ix,Nat.reduceAdd]
    refine Br.mo rfl rfl hc (fun d K' hK=>?_) _
    go_simp
    refine hK _ _ ⟨rfl,?_⟩
    clear hK K'
    refine Br.mo rfl rfl hc (fun d K' hK=>?_) _
    go_simp
    refine hK _ _ ⟨rfl,?_⟩
    clear hK K'
    refine Br.mo rfl rfl hc (fun d K' hK=>?_) _
    go_simp
    refine hK _ _ ⟨rfl,?_⟩
    clear hK K'
    refine Br.mo rfl rfl hc (fun d K' hK=>?_) _
    have e2:(w'.at d).cell? ⟨b.bl,1,none⟩=some (.slice (some ⟨b.bu,0,none⟩) n n):=k12
    go_simp
    refine hK _ _ ⟨rfl,?_⟩
    clear hK K'
    refine Br.mo rfl rfl hc (fun d K' hK=>?_) _
    go_simp
    refine hK _ _ ⟨rfl,?_⟩
    clear hK K'
    refine Br.mo rfl rfl hc (fun d K' hK=>?_) _
    go_simp
    refine hK _ _ ⟨rfl,?_⟩
    clear hK K'
    refine Br.must_operW rfl rfl (by decide) (fun d K' hK=>?_) _
    have ej:(w'.at d).cell? ⟨b.bu,i,none⟩=some (ptrU (some v.C.o)):=cu2
    have ez:(w'.at d).frozen? ⟨b.bu,i,none⟩=false:=zu2
    go_simp
    refine hK _ _ ⟨Br.dl_store (by rw [sfu];exact Nat.zero_le _) (World.block_lt_of_cell? _ _ ej) (fun e he=>?_),?_⟩
    ·have hm:=mem_listed he
     simp only [go_sem] at hm
     simp [go_sem] at hm
     try rw [events_store _ _ _ _ _ _ rfl] at hm
     first|rw [ej] at hm|rw [cu2] at hm
     first|rw [ez] at hm|rw [zu2] at hm
     simp only [Bool.false_eq_true,if_false,List.push_toArray,List.nil_append,List.mem_toArray,List.mem_cons,List.not_mem_nil,or_false] at hm
     exact hm
    clear hK K' ej ez
    rw [show (w'.at d).setCell ⟨b.bu,i,none⟩ (.pointer none)=(w'.setCell ⟨b.bu,i,none⟩ (.pointer none)).at d from rfl]
    have hc:=cl2
    refine Br.liv_region_end (fun d=>?_) _
    refine Br.mc rfl (fun u=>stepG_inBlock) (fun d=>?_) _
    refine Br.liv_region (fun d=>?_) _
    simp only [Br.rz,Br.ix,Nat.reduceAdd]
    refine Br.mo rfl rfl hc (fun d K' hK=>?_) _
    go_simp
    refine hK _ _ ⟨rfl,?_⟩
    clear hK K'
    refine Br.mo rfl rfl hc (fun d K' hK=>?_) _
    go_simp
    refine hK _ _ ⟨rfl,?_⟩
    clear hK K'
    refine Br.liv_region_end (fun d=>?_) _
    refine Br.mc rfl (fun u=>stepG_inLoop) (fun d=>?_) _
    rw [wrap_small (by omega) (by omega),show ((i:Int)+1)=((i+1:Nat):Int) from by simp]
    exact ih' _ _ _ _ _ _ _ _ _ _ _ _ _ _ _ _ _ _
   rw [hU] at cu
   have cu':w.cell? ⟨b.bu,i,none⟩=some (.pointer (some ⟨v.C.o.bo,0,none⟩)):=cu
   clear cu ih hx
   unfold cnRest
   unfold cnCall at after
   simp only [Tryd.f20,pO] at *
   refine Br.liv_seq (fun d=>?_) _
   refine Br.liv_region (fun d=>?_) _
   simp only [Br.rz,Br.ix,Nat.reduceAdd]
   refine Br.mo rfl rfl hc (fun d K' hK=>?_) _
   go_simp
   refine hK _ _ ⟨rfl,?_⟩
   clear hK K'
   refine Br.liv_region_end (fun d=>?_) _
   refine Br.liv_seq (fun d=>?_) _
   refine Br.mc rfl (fun u=>stepG_cond (t:=true) (by simp [Act.eval,hlt])) (fun d=>?_) _
   simp only [if_true]
   refine Br.liv_skip (fun d=>?_) _
   refine Br.liv_seq (fun d=>?_) _
   refine Br.mc rfl (fun u=>stepG_block) (fun d=>?_) _
   refine Br.liv_seq (fun d=>?_) _
   refine Br.liv_region (fun d=>?_) _
   simp only [Br.rz,Br.ix,Nat.reduceAdd]
   refine Br.mo rfl rfl hc (fun d K' hK=>?_) _
   go_simp
   refine hK _ _ ⟨rfl,?_⟩
   clear hK K'
   refine Br.mo rfl rfl hc (fun d K' hK=>?_) _
   go_simp
   refine hK _ _ ⟨rfl,?_⟩
   clear hK K'
   refine Br.mo rfl rfl hc (fun d K' hK=>?_) _
   have e2:(w.at d).cell? ⟨b.bu,i,none⟩=some (.pointer (some ⟨v.C.o.bo,0,none⟩)):=cu'
   go_simp
   refine hK _ _ ⟨rfl,?_⟩
   clear hK K'
   refine Br.mo rfl rfl hc (fun d K' hK=>?_) _
   go_simp
   refine hK _ _ ⟨rfl,?_⟩
   clear hK K'
   refine Br.mo rfl rfl hc (fun d K' hK=>?_) _
   go_simp
   refine hK _ _ ⟨rfl,?_⟩
   clear hK K'
   refine Br.liv_region_end (fun d=>?_) _
   refine Br.liv_seq (fun d=>?_) _
   refine Br.liv_region (fun d=>?_) _
   simp only [Br.rz,Br.ix,Nat.reduceAdd]
   refine Br.mo rfl rfl hc (fun d K' hK=>?_) _
   go_simp
   refine hK _ _ ⟨rfl,?_⟩
   clear hK K'
   refine Br.mo rfl rfl hc (fun d K' hK=>?_) _
   go_simp
   refine hK _ _ ⟨rfl,?_⟩
   clear hK K'
   refine Br.liv_region_end (fun d=>?_) _
   refine Br.mc rfl (fun u=>stepG_cond (t:=true) rfl) (fun d=>?_) _
   simp only [if_true,if_false,Bool.false_eq_true,↓reduceIte]
   refine Br.liv_seq (fun d=>?_) _
   refine Br.liv_region (fun d=>?_) _
   simp only [Br.rz,Br.ix,Nat.reduceAdd]
   refine Br.mo rfl rfl hc (fun d K' hK=>?_) _
   go_simp
   refine hK _ _ ⟨rfl,?_⟩
   clear hK K'
   refine Br.mc rfl (fun u=>stepG_call rfl rfl (by decide) rfl Tryd.func44 rfl rfl (vs:=#[.pointer (some ⟨v.C.o.bo,0,none⟩)]) (by simp [Act.eval]) u) (fun d=>?_) _
   exact .stop (after _ _ _ _ _ _ _ _ _)
noncomputable def CancelBody:Code:=(Tryd.f20.body).getD .skip
theorem Cancel_enter (k0:Value):Frame.enter Tryd.prog 20 #[k0] .normal=(base 20).at ⟨#[k0,undef,undef,undef,undef,undef,undef,undef,undef,undef,undef,undef,undef,undef,undef,undef,undef,undef,undef,undef,undef,undef,undef,undef,undef],[]⟩ [.code CancelBody]:=by
 rw [enter_at (c:=CancelBody) _ Tryd.func20 rfl]
 refine congrArg (fun t=>(base 20).at ⟨t,[]⟩ [.code CancelBody]) ?_
 kernel_rfl
theorem main_Cancel (co:Co kb l K L r Inb nG w)(lm:LibM kb l L w b n B0 U V N Xs)(fr:Frame)(cs:List Frame)
  (hx:∀ L' Inb' w',Co kb l K L' r Inb' nG w'→LibM kb l L' w' b n B0 (fun _=>none) V N Xs→(∀ k,Mn kb L w k→k≠b.bu→Mn kb L' w' k∧w'.heap[k]?=w.heap[k]?)→(∀ g v,L' g=some v→L g=some v∧∀ p,p<n→U p≠some v.C.o)→X Tryd.prog Final l Inb' nG 0 (G (fr.finish (.tuple #[])) cs) w') :
  X Tryd.prog Final l Inb nG 0 (G (Frame.enter Tryd.prog 20 #[.pointer (some ⟨b.bl,0,none⟩)] .normal) (fr::cs)) w:=by
 have key:=cancel_loop (Final:=Final) fr cs L U w hx n 0 (by omega) U L Inb w co lm (fun q hq=>by omega) (fun _ _=>rfl) (fun k h _=>⟨h,rfl⟩) (fun g v hv=>⟨hv,fun p hp=>by omega⟩)
 have k1:=lm.m.is.k1
 have hc:=co.env.fit.clear
 rw [Cancel_enter]
 unfold cnRest at key
 simp only [CancelBody,Tryd.f20,Option.getD_some] at *
 refine Br.x_must (st:=true) ?_
 show Must Tryd.prog true (DL true (sfO l)) _ _ (w.at w.drawn)
 generalize w.drawn=dz
 refine Br.liv_seq (fun d=>?_) _
 refine Br.liv_region (fun d=>?_) _
 simp only [Br.rz,Br.ix,Nat.reduceAdd]
 refine Br.mo rfl rfl hc (fun d K' hK=>?_) _
 go_simp
 refine hK _ _ ⟨rfl,?_⟩
 clear hK K'
 refine Br.mo rfl rfl hc (fun d K' hK=>?_) _
 go_simp
 refine hK _ _ ⟨rfl,?_⟩
 clear hK K'
 refine Br.mo rfl rfl hc (fun d K' hK=>?_) _
 go_simp
 refine hK _ _ ⟨rfl,?_⟩
 clear hK K'
 refine Br.mo rfl rfl hc (fun d K' hK=>?_) _
 have e1:(w.at d).cell? ⟨b.bl,1,none⟩=some (.slice (some ⟨b.bu,0,none⟩) n n):=k1
 go_simp
 refine hK _ _ ⟨rfl,?_⟩
 clear hK K'
 refine Br.mo rfl rfl hc (fun d K' hK=>?_) _
 go_simp
 refine hK _ _ ⟨rfl,?_⟩
 clear hK K'
 refine Br.mo rfl rfl hc (fun d K' hK=>?_) _
 go_simp
 refine hK _ _ ⟨rfl,?_⟩
 clear hK K'
 refine Br.liv_region_end (fun d=>?_) _
 refine Br.mc rfl (fun u=>stepG_block) (fun d=>?_) _
 refine Br.mc rfl (fun u=>stepG_loop) (fun d=>?_) _
 exact key _ _ _ _ _ _ _ _ _ _ _ _ _ _ _ _ _ _
end
end Go.Proofs.YtcgabodkegcpgaaDoor
namespace Go.Proofs.YtcgabodkegcpgaaDoor
open Go.Conc Go.RowKit
open Br (OpD KO SO SP sfO Lk Fit Must DL Liv Clear X)
def FinalP (P:Program)(Post:Value→World→Prop)(m:Machine)(T:Trace):Prop :=
 ∃ N last o w' t',runNT P (N+1) m T=(.ended o w',t')∧runN P N m=.next last∧step P last=.ended o w'∧Go.Conc.Good P (fun v w'=>Post v w'∧Br.Calm m.world w') last o w' t'
section
variable {P:Program} {Post:Value→World→Prop} {l:List OpD} {Inb:Nat→Option Seat} {n:Nat} {w:World}
theorem x_fin {a:Goroutine}{v:Value}(hrun:a.status=.running)(hst:∀ d,stepG P true a (w.at d)=.ended (.done v) (w.at d) #[])(hp:∀ d,Post v (w.at d))(hI:∀ i,i≠0→Inb i=none):X P (FinalP P Post) l Inb n 0 a w:=by
 rintro m T ⟨gs,sl,q,Mem,rfl,hn,hg,hM,hdis,C⟩
 obtain ⟨L,Pp⟩:=ring_end C hM hI
 obtain ⟨N,last,o,w',t',e1,e2,e3,e4⟩:=beside_ends (P:=P) (Post:=fun v w'=>Post v w'∧Br.Calm w w') (D:=fun _ _ _=>False) (sl:=sl) (n:=0) (fun _ _ _ h=>h.elim) hg L Pp (fun w₁ h₁=>by
  obtain ⟨d,rfl⟩:=h₁
  exact ⟨hrun,v,#[],hst d,by simp,hp d,rfl,rfl,rfl⟩)
 exact ⟨0,_,_,rfl,⟨N,last,o,w',t',e1,e2,e3,e4⟩,rfl,rfl,rfl⟩
theorem run_of_x {g:Goroutine}{W:World}(h:X P (FinalP P Post) [] (fun _=>none) 1 0 g W) :
  ∃ N last o w' t',runNT P (N+1) (solo g W) #[]=(.ended o w',t')∧runN P N (solo g W)=.next last∧step P last=.ended o w'∧Go.Conc.Good P (fun v w'=>Post v w'∧Br.Calm W w') last o w' t':=by
 obtain ⟨N,m',T',hr,⟨M,last,o,w',t',e1,e2,e3,e4⟩,hcm⟩:=h (solo g W) #[] ⟨#[g],none,fun _=>0,fun i=>i=0,solo_eq_crowd _ _,rfl,rfl,rfl,fun i s c hi=>(by cases hi),
  ring_begin (fun x hx=>by
   rcases hx with ⟨o,ho,_⟩|⟨_,_,h,_⟩
   ·cases ho
   ·exact h.elim) (leavers_one _ _) (past_nil.mono (Nat.zero_le _)) (fun o ho=>by cases ho)⟩
 refine ⟨N+M,last,o,w',t',?_,?_,e3,e4.mono fun v hv=>⟨hv.1,Br.Calm.trans hcm hv.2⟩⟩
 ·rw [Nat.add_assoc,runNT_add,hr];exact e1
 ·rw [runN_add,← runNT_fst P _ _ #[],hr];exact e2
end
end Go.Proofs.YtcgabodkegcpgaaDoor
namespace Go.Proofs.YtcgabodkegcpgaaDoor
open Go.RowKit
attribute [local go_sem ↓] Go.wp_at_zero Go.wp_at_succ
theorem infoU:(Tryd.prog.info? 106).map (fun i=>(i.zero,i.size,i.bytes))=some (some (.pointer none),1,8):=by kernel_rfl
theorem infoD:(Tryd.prog.info? 65).map (fun i=>(i.zero,i.size,i.bytes))=some (some (.slice none 0 0),1,24):=by kernel_rfl
theorem makeU (n:Nat)(hn:n≤32)(w:World):∃ C:Array Value,C.size=n∧(∀ j,j<n→C[j]?=some (.pointer none))∧(Instr.makeSlice 102 (.int .i64 n) (.int .i64 n)).run Tryd.prog w=.ok (.slice (some ⟨w.heap.size,0,none⟩) n n) (w.alloc (.cells C 106)):=by
 have hinfo:=infoU
 cases hq:Tryd.prog.info? 106 with
 | none=>rw [hq] at hinfo;cases hinfo
 | some i =>
  rw [hq] at hinfo
  simp only [Option.map_some,Option.some.injEq,Prod.mk.injEq] at hinfo
  obtain ⟨hz,hs,hb⟩:=hinfo
  have:=run_make (P:=Tryd.prog) w 102 106 i _ Tryd.underlying102 hq hz .i64 .i64 n n (by omega) (by omega) (by rw [hb];omega) (by omega)
  rw [hs,Nat.mul_one] at this
  refine ⟨_,size_madeCells _ _,fun j hj=>?_,this⟩
  unfold madeCells
  rw [Array.getElem?_map,Array.getElem?_range,if_pos (by omega)]
  simp [Value.cells,Nat.mod_one]
theorem makeD (n:Nat)(hn:n≤32)(w:World):∃ C:Array Value,C.size=n∧(∀ j,j<n→C[j]?=some (.slice none 0 0))∧(Instr.makeSlice 64 (.int .i64 n) (.int .i64 n)).run Tryd.prog w=.ok (.slice (some ⟨w.heap.size,0,none⟩) n n) (w.alloc (.cells C 65)):=by
 have hinfo:=infoD
 cases hq:Tryd.prog.info? 65 with
 | none=>rw [hq] at hinfo;cases hinfo
 | some i =>
  rw [hq] at hinfo
  simp only [Option.map_some,Option.some.injEq,Prod.mk.injEq] at hinfo
  obtain ⟨hz,hs,hb⟩:=hinfo
  have:=run_make (P:=Tryd.prog) w 64 65 i _ Tryd.underlying64 hq hz .i64 .i64 n n (by omega) (by omega) (by rw [hb];omega) (by omega)
  rw [hs,Nat.mul_one] at this
  refine ⟨_,size_madeCells _ _,fun j hj=>?_,this⟩
  unfold madeCells
  rw [Array.getElem?_map,Array.getElem?_range,if_pos (by omega)]
  simp [Value.cells,Nat.mod_one]
end Go.Proofs.YtcgabodkegcpgaaDoor
namespace Go.Proofs.YtcgabodkegcpgaaDoor
open Go.Conc Go.RowKit
attribute [local go_sem ↓] Go.wp_at_zero Go.wp_at_succ
noncomputable def nlOps:Array Oper :=
 match Tryd.f16.body with
 | some (.seq _ (.seq _ (.seq (.region _ ops _) _)))=>ops
 | _=>#[]
theorem nl_one:Br.oneDst nlOps=true:=by kernel_rfl
def nlA (bk n c2 c4:Nat):Array Value:=#[.pointer (some ⟨bk,0,none⟩),.slice (some ⟨c2,0,none⟩) n n,.slice (some ⟨c4,0,none⟩) n n]
def nlV (bk n c2 c4 c6:Nat):Nat→Value
 | 0=>.pointer (some ⟨bk,0,none⟩)|1=>.int .i64 n|2=>.slice (some ⟨c2,0,none⟩) n n|3=>.int .i64 n|4=>.slice (some ⟨c4,0,none⟩) n n
 | 5=>.agg (nlA bk n c2 c4)|6=>.pointer (some ⟨c6,0,none⟩)|7=>.pointer (some ⟨c6,0,none⟩)|_=>undef
structure NlI (v:World) (bk n c2 c4 c6:Nat) (listed:Array Bool) (w:World):Prop where
 bel:Below v.heap.size v w
 l2:listed.getD 2 false=true→v.heap.size≤c2∧RowU w c2 n (fun _=>.pointer none)
 l4:listed.getD 4 false=true→v.heap.size≤c4∧RowU w c4 n (fun _=>.slice none 0 0)
 l24:listed.getD 2 false=true→listed.getD 4 false=true→c2≠c4
 l5:listed.getD 5 false=true→listed.getD 2 false=true∧listed.getD 4 false=true
 l6:listed.getD 6 false=true→listed.getD 5 false=true∧v.heap.size≤c6∧w.heap[c6]?=some (.cells (nlA bk n c2 c4) 104 (0,0))∧c2<c6∧c4<c6
 l7:listed.getD 7 false=true→listed.getD 6 false=true
theorem row_alloc {w:World}{b n:Nat}{f:Nat→Value}(h:RowU w b n f)(o:Obj):RowU (w.alloc o) b n f:=h.of (Below.heap_alloc w o b h.lt)
theorem NlI.pure {v w:World}{bk n c2 c4 c6:Nat}{listed:Array Bool}(h:NlI v bk n c2 c4 c6 listed w){q:Nat}(h2:q≠2)(h4:q≠4)(h5:q≠5)(h6:q≠6)(h7:q≠7):NlI v bk n c2 c4 c6 (listed.setIfInBounds q true) w :=
 ⟨h.bel,by rw [set_else h2];exact h.l2,by rw [set_else h4];exact h.l4,by rw [set_else h2,set_else h4];exact h.l24,by rw [set_else h5,set_else h2,set_else h4];exact h.l5,by rw [set_else h6,set_else h5];exact h.l6,by rw [set_else h7,set_else h6];exact h.l7⟩
theorem nl_orders {bk n:Nat}(hn:n≤32){tb:Array Value}(hsz:tb.size=15)(b0:tb[0]?=some (.pointer (some ⟨bk,0,none⟩)))(b3:tb[3]?=some (.int .i64 n)){v:World}{Q:Exit→Act→World→Prop}
  (hfin:∀ c2 c4 c6 w,NlI v bk n c2 c4 c6 (Array.replicate 8 true) w→Q .normal ⟨Br.fill nlOps (nlV bk n c2 c4 c6) tb,[]⟩ w) :
  ∀ fuel listed (aw:Act × World) rest,Br.Ord nlOps fuel listed rest→(∃ c2 c4 c6,Br.Agr nlOps (nlV bk n c2 c4 c6) tb listed aw.1∧NlI v bk n c2 c4 c6 listed aw.2)→wpOps Tryd.prog nlOps Q rest aw.1 aw.2:=by
 refine ord_anyS (J:=fun (aw:Act × World) rest=>wpOps Tryd.prog nlOps Q rest aw.1 aw.2) (fun f0 listed aw q rest hi hA2 hO hIH=>?_) (fun listed aw hr hA2=>?_)
 ·obtain ⟨a,w⟩:=aw
  obtain ⟨c2,c4,c6,hA,hI⟩:=hA2
  simp only at hA hI
  have hlt:=Br.ready_lt hi
  have hz:nlOps.size=8:=by kernel_rfl
  rw [hz] at hlt
  have fq:=ready_false hi
  have hcs:q=0∨q=1∨q=2∨q=3∨q=4∨q=5∨q=6∨q=7:=by omega
  rcases hcs with rfl|rfl|rfl|rfl|rfl|rfl|rfl|rfl
  ·obtain ⟨o,ho,hop,hg⟩:∃ o,nlOps[0]?=some o∧o.op=.move (.tmp 0)∧o.guard=none:=⟨_,rfl,rfl,rfl⟩
   have e0:a.eval (.tmp 0)=.pointer (some ⟨bk,0,none⟩):=hA.base (by kernel_rfl) b0
   exact wp_val ho hg (w':=w) (run_move hop e0) (hIH (_,w) ⟨c2,c4,c6,hA.put nl_one ho rfl,hI.pure (by omega) (by omega) (by omega) (by omega) (by omega)⟩)
  ·obtain ⟨o,ho,hop,hg⟩:∃ o,nlOps[1]?=some o∧o.op=.move (.tmp 3)∧o.guard=none:=⟨_,rfl,rfl,rfl⟩
   have e0:a.eval (.tmp 3)=.int .i64 n:=hA.base (by kernel_rfl) b3
   exact wp_val ho hg (w':=w) (run_move hop e0) (hIH (_,w) ⟨c2,c4,c6,hA.put nl_one ho rfl,hI.pure (by omega) (by omega) (by omega) (by omega) (by omega)⟩)
  ·obtain ⟨o,ho,hop,hg⟩:∃ o,nlOps[2]?=some o∧o.op=.makeSlice 102 (.tmp 9) (.tmp 9)∧o.guard=none:=⟨_,rfl,rfl,rfl⟩
   have e9:a.eval (.tmp 9)=.int .i64 n:=hA.tmp (j:=1) rfl rfl (Br.ready_after hi rfl (by kernel_rfl)) (by omega) rfl
   obtain ⟨C,hC,hCz,hmk⟩:=makeU n hn w
   have f5:listed.getD 5 false=false:=by
    cases e:listed.getD 5 false with
    | false=>rfl
    | true=>rw [(hI.l5 e).1] at fq;cases fq
   have f6:listed.getD 6 false=false:=by
    cases e:listed.getD 6 false with
    | false=>rfl
    | true=>rw [(hI.l6 e).1] at f5;cases f5
   have f7:listed.getD 7 false=false:=by
    cases e:listed.getD 7 false with
    | false=>rfl
    | true=>rw [hI.l7 e] at f6;cases f6
   have hA':Br.Agr nlOps (nlV bk n w.heap.size c4 c6) tb listed a:=hA.val fun i hli=>by
    match i,hli with
    | 0,_=>rfl
    | 1,_=>rfl
    | 2,h=>rw [fq] at h;cases h
    | 3,_=>rfl
    | 4,_=>rfl
    | 5,h=>rw [f5] at h;cases h
    | 6,h=>rw [f6] at h;cases h
    | 7,h=>rw [f7] at h;cases h
    | (_+8),_=>rfl
   have hsw:v.heap.size≤w.heap.size:=hI.bel.size
   refine wp_val ho hg (v:=.slice (some ⟨w.heap.size,0,none⟩) n n) (w':=w.alloc (.cells C 106)) (by unfold execOp;simp only [hop,e9];go_simp) (hIH (_,_) ⟨w.heap.size,c4,c6,hA'.put nl_one ho rfl,⟨hI.bel.alloc hsw _,fun _=>⟨hsw,⟨C,_,heap_alloc_new w _,hC,hCz⟩⟩,fun h=>?_,fun _ h=>?_,fun h=>?_,fun h=>?_,fun h=>?_⟩⟩)
   ·rw [set_else (by omega)] at h;exact ⟨(hI.l4 h).1,row_alloc (hI.l4 h).2 _⟩
   ·rw [set_else (by omega)] at h;have:=(hI.l4 h).2.lt;omega
   ·rw [set_else (by omega),f5] at h;cases h
   ·rw [set_else (by omega),f6] at h;cases h
   ·rw [set_else (by omega),f7] at h;cases h
  ·obtain ⟨o,ho,hop,hg⟩:∃ o,nlOps[3]?=some o∧o.op=.move (.tmp 3)∧o.guard=none:=⟨_,rfl,rfl,rfl⟩
   have e0:a.eval (.tmp 3)=.int .i64 n:=hA.base (by kernel_rfl) b3
   exact wp_val ho hg (w':=w) (run_move hop e0) (hIH (_,w) ⟨c2,c4,c6,hA.put nl_one ho rfl,hI.pure (by omega) (by omega) (by omega) (by omega) (by omega)⟩)
  ·obtain ⟨o,ho,hop,hg⟩:∃ o,nlOps[4]?=some o∧o.op=.makeSlice 64 (.tmp 11) (.tmp 11)∧o.guard=none:=⟨_,rfl,rfl,rfl⟩
   have e9:a.eval (.tmp 11)=.int .i64 n:=hA.tmp (j:=3) rfl rfl (Br.ready_after hi rfl (by kernel_rfl)) (by omega) rfl
   obtain ⟨C,hC,hCz,hmk⟩:=makeD n hn w
   have f5:listed.getD 5 false=false:=by
    cases e:listed.getD 5 false with
    | false=>rfl
    | true=>rw [(hI.l5 e).2] at fq;cases fq
   have f6:listed.getD 6 false=false:=by
    cases e:listed.getD 6 false with
    | false=>rfl
    | true=>rw [(hI.l6 e).1] at f5;cases f5
   have f7:listed.getD 7 false=false:=by
    cases e:listed.getD 7 false with
    | false=>rfl
    | true=>rw [hI.l7 e] at f6;cases f6
   have hA':Br.Agr nlOps (nlV bk n c2 w.heap.size c6) tb listed a:=hA.val fun i hli=>by
    match i,hli with
    | 0,_=>rfl
    | 1,_=>rfl
    | 2,_=>rfl
    | 3,_=>rfl
    | 4,h=>rw [fq] at h;cases h
    | 5,h=>rw [f5] at h;cases h
    | 6,h=>rw [f6] at h;cases h
    | 7,h=>rw [f7] at h;cases h
    | (_+8),_=>rfl
   have hsw:v.heap.size≤w.heap.size:=hI.bel.size
   refine wp_val ho hg (v:=.slice (some ⟨w.heap.size,0,none⟩) n n) (w':=w.alloc (.cells C 65)) (by unfold execOp;simp only [hop,e9];go_simp) (hIH (_,_) ⟨c2,w.heap.size,c6,hA'.put nl_one ho rfl,⟨hI.bel.alloc hsw _,fun h=>?_,fun _=>⟨hsw,⟨C,_,heap_alloc_new w _,hC,hCz⟩⟩,fun h _=>?_,fun h=>?_,fun h=>?_,fun h=>?_⟩⟩)
   ·rw [set_else (by omega)] at h;exact ⟨(hI.l2 h).1,row_alloc (hI.l2 h).2 _⟩
   ·rw [set_else (by omega)] at h;have:=(hI.l2 h).2.lt;omega
   ·rw [set_else (by omega),f5] at h;cases h
   ·rw [set_else (by omega),f6] at h;cases h
   ·rw [set_else (by omega),f7] at h;cases h
  ·obtain ⟨o,ho,hop,hg⟩:∃ o,nlOps[5]?=some o∧o.op=.build 104 #[(0,.tmp 8),(1,.tmp 10),(2,.tmp 12)]∧o.guard=none:=⟨_,rfl,rfl,rfl⟩
   have y2:listed.getD 2 false=true:=Br.ready_after hi rfl (by kernel_rfl)
   have y4:listed.getD 4 false=true:=Br.ready_after hi rfl (by kernel_rfl)
   have e8:a.eval (.tmp 8)=.pointer (some ⟨bk,0,none⟩):=hA.tmp (j:=0) rfl rfl (Br.ready_after hi rfl (by kernel_rfl)) (by omega) rfl
   have e10:a.eval (.tmp 10)=.slice (some ⟨c2,0,none⟩) n n:=hA.tmp (j:=2) rfl rfl y2 (by omega) rfl
   have e12:a.eval (.tmp 12)=.slice (some ⟨c4,0,none⟩) n n:=hA.tmp (j:=4) rfl rfl y4 (by omega) rfl
   exact wp_val ho hg (v:=.agg (nlA bk n c2 c4)) (w':=w) (by unfold execOp;simp only [hop,List.map_toArray,List.map_cons,List.map_nil,e8,e10,e12];kernel_rfl) (hIH (_,w) ⟨c2,c4,c6,hA.put nl_one ho rfl,⟨hI.bel,by rw [set_else (by omega)];exact hI.l2,by rw [set_else (by omega)];exact hI.l4,by rw [set_else (by omega),set_else (by omega)];exact hI.l24,fun _=>by rw [set_else (by omega),set_else (by omega)];exact ⟨y2,y4⟩,fun h=>(by rw [set_else (by omega)] at h;rw [(hI.l6 h).1] at fq;cases fq),by rw [set_else (by omega),set_else (by omega)];exact hI.l7⟩⟩)
  ·obtain ⟨o,ho,hop,hg⟩:∃ o,nlOps[6]?=some o∧o.op=.box 104 (.tmp 13)∧o.guard=none:=⟨_,rfl,rfl,rfl⟩
   have y5:listed.getD 5 false=true:=Br.ready_after hi rfl (by kernel_rfl)
   have e13:a.eval (.tmp 13)=.agg (nlA bk n c2 c4):=hA.tmp (j:=5) rfl rfl y5 (by omega) rfl
   obtain ⟨y2,y4⟩:=hI.l5 y5
   have f7:listed.getD 7 false=false:=by
    cases e:listed.getD 7 false with
    | false=>rfl
    | true=>rw [hI.l7 e] at fq;cases fq
   have hA':Br.Agr nlOps (nlV bk n c2 c4 w.heap.size) tb listed a:=hA.val fun i hli=>by
    match i,hli with
    | 0,_=>rfl
    | 1,_=>rfl
    | 2,_=>rfl
    | 3,_=>rfl
    | 4,_=>rfl
    | 5,_=>rfl
    | 6,h=>rw [fq] at h;cases h
    | 7,h=>rw [f7] at h;cases h
    | (_+8),_=>rfl
   have hsw:v.heap.size≤w.heap.size:=hI.bel.size
   have r2:=(hI.l2 y2).2
   have r4:=(hI.l4 y4).2
   exact wp_val ho hg (v:=.pointer (some ⟨w.heap.size,0,none⟩)) (w':=w.alloc (.cells (nlA bk n c2 c4) 104 (0,0))) (by unfold execOp;simp only [hop,e13];kernel_rfl) (hIH (_,_) ⟨c2,c4,w.heap.size,hA'.put nl_one ho rfl,⟨hI.bel.alloc hsw _,fun _=>⟨(hI.l2 y2).1,row_alloc r2 _⟩,fun _=>⟨(hI.l4 y4).1,row_alloc r4 _⟩,fun _ _=>hI.l24 y2 y4,fun _=>by rw [set_else (by omega),set_else (by omega)];exact ⟨y2,y4⟩,fun _=>⟨by rw [set_else (by omega)];exact y5,hsw,heap_alloc_new w _,r2.lt,r4.lt⟩,fun h=>by rw [set_else (by omega),f7] at h;cases h⟩⟩)
  ·obtain ⟨o,ho,hop,hg⟩:∃ o,nlOps[7]?=some o∧o.op=.assign (.tmp 14)∧o.guard=none:=⟨_,rfl,rfl,rfl⟩
   have y6:listed.getD 6 false=true:=Br.ready_after hi rfl (by kernel_rfl)
   have e14:a.eval (.tmp 14)=.pointer (some ⟨c6,0,none⟩):=hA.tmp (j:=6) rfl rfl y6 (by omega) rfl
   exact wp_val ho hg (v:=.pointer (some ⟨c6,0,none⟩)) (w':=w) (by unfold execOp;simp only [hop,e14];rfl) (hIH (_,w) ⟨c2,c4,c6,hA.put nl_one ho rfl,⟨hI.bel,by rw [set_else (by omega)];exact hI.l2,by rw [set_else (by omega)];exact hI.l4,by rw [set_else (by omega),set_else (by omega)];exact hI.l24,by rw [set_else (by omega),set_else (by omega),set_else (by omega)];exact hI.l5,by rw [set_else (by omega),set_else (by omega)];exact hI.l6,fun _=>by rw [set_else (by omega)];exact y6⟩⟩)
 ·obtain ⟨a,w⟩:=aw
  obtain ⟨c2,c4,c6,hA,hI⟩:=hA2
  simp only at hA hI
  have hall:=Br.all_listed (by kernel_rfl) hA.len hr
  have hz:nlOps.size=8:=by kernel_rfl
  obtain rfl:=hA.full hall
  have t:∀ j,j<8→listed.getD j false=true:=fun j hj=>hall j (by omega)
  exact hfin c2 c4 c6 w ⟨hI.bel,fun _=>hI.l2 (t 2 (by omega)),fun _=>hI.l4 (t 4 (by omega)),fun _ _=>hI.l24 (t 2 (by omega)) (t 4 (by omega)),fun _=>⟨rfl,rfl⟩,fun _=>⟨rfl,(hI.l6 (t 6 (by omega))).2⟩,fun _=>rfl⟩
structure NewL (w w':World) (bk n bl bu bn:Nat):Prop where
 bel:Below w.heap.size w w'
 gl:w.heap.size≤bl
 gu:w.heap.size≤bu
 gn:w.heap.size≤bn
 lu:bu<bl
 ln:bn<bl
 un:bu≠bn
 l:w'.heap[bl]?=some (.cells (nlA bk n bu bn) 104 (0,0))
 u:RowU w' bu n (fun _=>.pointer none)
 d:RowU w' bn n (fun _=>.slice none 0 0)
theorem rep_false (n j:Nat):(Array.replicate n false).getD j false=false:=by
 rw [Array.getD_eq_getD_getElem?,Array.getElem?_replicate];split<;>rfl
theorem lnew_any {w:World}{bk bf bs bd:Nat}{K:Ker}(R:Rep w bk bf bs bd K) :
  Calls Tryd.prog 16 #[.pointer (some ⟨bk,0,none⟩)] w fun e w'=>∃ bl,e=.returned (.pointer (some ⟨bl,0,none⟩))∧∃ bu bn,NewL w w' bk K.nS bl bu bn:=by
 go_enter Tryd.func16,Tryd.ntmps16
 have h6:Hid (K.nS≤6):=R.hS
 go_wp2_with fail
 refine (state_rep R).mono ?_
 rintro e w1 ⟨gF,gS,gD,rfl,b1,S1,l1,l2,l3⟩
 unfold stVal
 have hfd:∀ w:World,(Instr.field 45 (.agg #[Value.slice (some ⟨gF,0,none⟩) K.nF K.nF,.slice (some ⟨gS,0,none⟩) K.nS K.nS,.slice (some ⟨gD,0,none⟩) K.nD K.nD]) 1).run Tryd.prog w=.ok (.slice (some ⟨gS,0,none⟩) K.nS K.nS) w:=fun _=>by kernel_rfl
 go_wp2_with fail
 clear hfd
 refine wp_region_draw (ops:=nlOps) fun t=>?_
 have hb:Below w.heap.size w { w1 with drawn:=w1.drawn+1 }:=b1.drew
 refine nl_orders (v:={ w1 with drawn:=w1.drawn+1 }) (bk:=bk) (n:=K.nS) (by have:=h6.out;omega) rfl rfl rfl ?_ _ _ (_,_) _ (Br.ord_start (by kernel_rfl) nlOps t) ⟨0,0,0,Br.Agr.start _ _ _,⟨.refl _ _,fun h=>?_,fun h=>?_,fun h=>?_,fun h=>?_,fun h=>?_,fun h=>?_⟩⟩
 ·intro c2 c4 c6 w2 I
  rename_i Q' KK hKK
  refine hKK _ _ ?_
  have hf:Br.fill nlOps (nlV bk K.nS c2 c4 c6) #[.pointer (some ⟨bk,0,none⟩),undef,.pointer none,.int .i64 K.nS,.pointer (some ⟨bk,0,none⟩),.agg #[.slice (some ⟨gF,0,none⟩) K.nF K.nF,.slice (some ⟨gS,0,none⟩) K.nS K.nS,.slice (some ⟨gD,0,none⟩) K.nD K.nD],.slice (some ⟨gS,0,none⟩) K.nS K.nS,.int .i64 K.nS,undef,undef,undef,undef,undef,undef,undef]
    = #[.pointer (some ⟨bk,0,none⟩),undef,.pointer (some ⟨c6,0,none⟩),.int .i64 K.nS,.pointer (some ⟨bk,0,none⟩),.agg #[.slice (some ⟨gF,0,none⟩) K.nF K.nF,.slice (some ⟨gS,0,none⟩) K.nS K.nS,.slice (some ⟨gD,0,none⟩) K.nD K.nD],.slice (some ⟨gS,0,none⟩) K.nS K.nS,.int .i64 K.nS,.pointer (some ⟨bk,0,none⟩),.int .i64 K.nS,.slice (some ⟨c2,0,none⟩) K.nS K.nS,.int .i64 K.nS,.slice (some ⟨c4,0,none⟩) K.nS K.nS,.agg (nlA bk K.nS c2 c4),.pointer (some ⟨c6,0,none⟩)]:=by kernel_rfl
  rw [hf]
  have I2:=I.l2 rfl
  have I4:=I.l4 rfl
  have I24:=I.l24 rfl rfl
  have I6:=(I.l6 rfl).2
  have Ib:=I.bel
  have sz:w.heap.size≤({ w1 with drawn:=w1.drawn+1 }:World).heap.size:=b1.size
  clear I hf hKK
  go_wp2_with fail
  go_ret
  exact ⟨c6,rfl,c2,c4,below_then hb Ib sz,Nat.le_trans sz I6.1,Nat.le_trans sz I2.1,Nat.le_trans sz I4.1,I6.2.2.1,I6.2.2.2,I24,I6.2.1,I2.2,I4.2⟩
 all_goals (rw [rep_false] at h;cases h)
end Go.Proofs.YtcgabodkegcpgaaDoor
