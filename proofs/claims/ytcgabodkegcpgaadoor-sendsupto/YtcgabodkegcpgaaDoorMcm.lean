/- Pick, whole. -/
import Derived.Test.YtcgabodkegcpgaaDoorMck
set_option linter.unusedVariables false
set_option linter.unusedSimpArgs false
set_option maxHeartbeats 20000000
set_option maxRecDepth 100000
namespace Go.Proofs.YtcgabodkegcpgaaDoor
open Go.Conc Go.RowKit
open Br (X OpD KO SO SP sfO Lk Fit Must DL Liv Clear)
section
variable {kb:Kb} {l:List OpD} {K:Ker} {L:Nat→Option Lv} {r:Nat} {Inb:Nat→Option Seat} {nG:Nat} {w w':World} {v:Lv} {Final:Machine→Trace→Prop} {b:Lb} {B0:Nat} {U:Nat→Option OpD} {V:Nat→Value} {N:Nat→Nat} {Xs:Nat→List Value}
def LibEx (b:Lb)(V:Nat→Value)(p k:Nat):Prop:=k=b.bu∨k=b.bn∨(V p).ownBlock=some k
noncomputable def pick6 (x:Bool):List Item :=
 match Tryd.f18.body with
 | some (.seq _ (.seq _ (.seq _ (.seq _ (.seq (.seq (.region _ ops _) c) k)))))=>[.inRegion ops [1],.code c,.code k]
 | _=>[]
theorem main_pickN (co:Co kb l K L (r+1) Inb nG w){n:Nat}(hn:K.nS=n)(lm:LibM kb l L w b n B0 U V N Xs)(hN:∀ p,p<n→N p≤4398046511104)(hu1:∀ p q o,p<n→q<n→U p=some o→U q=some o→p=q)(s:Int)(fr:Frame)(cs:List Frame)
  (hno:(decide (0≤s) && decide (s<(n:Int)))=false→∀ w',Grown w w'→X Tryd.prog Final l Inb nG 0 (G (fr.finish (.tuple #[.bool false,.int .i64 3])) cs) w')
  (hnil:∀ p:Nat,s=p→p<n→U p=none→∀ w',Grown w w'→X Tryd.prog Final l Inb nG 0 (G (fr.finish (.tuple #[.bool false,.int .i64 11])) cs) w')
  (hmore:∀ (p:Nat) (v:Lv),s=p→p<n→U p=some v.C.o→v.C.slot=p→L v.C.o.gid=some v→∀ w' v' Inb',v'.C=v.C→v'.S=(fun _=>(v.turn K).2)→(∃ n a b c,(v.turn K).2 []=.call n a b c)→Co kb l (v.turn K).1 (ConcN.upd L v.C.o.gid (some v')) r Inb' nG w'→Kp kb L w (ConcN.upd L v.C.o.gid (some v')) w'→LibM kb l (ConcN.upd L v.C.o.gid (some v')) w' b n B0 U V N Xs→X Tryd.prog Final l Inb' nG 0 (G (fr.finish (.tuple #[.bool false,.int .i64 0])) cs) w')
  (hover:∀ (p:Nat) (v:Lv),s=p→p<n→U p=some v.C.o→v.C.slot=p→L v.C.o.gid=some v→∀ w' Inb' val err g cap,(v.turn K).2 []=.done val err→(∀ k,Mn kb L w k→¬ LibEx b V p k→k≠g)→Co kb l (v.turn K).1 (ConcN.upd L v.C.o.gid none) r Inb' nG w'→(∀ k,Mn kb L w k→¬ LibEx b V p k→Mn kb (ConcN.upd L v.C.o.gid none) w' k∧w'.heap[k]?=w.heap[k]?)→LibM kb l (ConcN.upd L v.C.o.gid none) w' b n B0 (setU U p) (setV V p (.slice (some ⟨g,0,none⟩) (N p+1) cap)) (setV N p (N p+1)) (setV Xs p (Xs p ++ ent v.C.kd v.C.A v.C.B err val))→X Tryd.prog Final l Inb' nG 0 (G (fr.finish (.tuple #[.bool true,.int .i64 0])) cs) w') :
  X Tryd.prog Final l Inb nG 0 (G (Frame.enter Tryd.prog 18 #[.pointer (some ⟨b.bl,0,none⟩),.int .i64 s] .normal) (fr::cs)) w:=by
 subst hn
 have hc:=co.env.fit.clear
 have turn:∀ (p:Nat) (o:OpD),s=p→p<K.nS→U p=some o→∀ W,Grown w W→∀ d,X Tryd.prog Final l Inb nG 0 (G (Frame.enter Tryd.prog 42 #[pO o] .normal) ((base 18).at ⟨#[.pointer (some ⟨b.bl,0,none⟩),.int .i64 p,undef,undef,.bool false,.int .i64 0,pO o,.pointer (some ⟨b.bl,0,none⟩),.int .i64 p,.bool true,.bool false,.pointer (some ⟨b.bl,0,none⟩),.pointer (some ⟨b.bl,0,none⟩),.pointer (some ⟨b.bl,1,none⟩),.slice (some ⟨b.bu,0,none⟩) K.nS K.nS,.int .i64 p,.pointer (some ⟨b.bu,p,none⟩),pO o,pO o,.bool false,pO o,undef,undef,undef,undef,undef,undef,undef,undef,undef,undef,undef,undef,undef,undef,undef,undef,undef,undef,undef,undef,undef,undef,undef,undef,undef,undef],[]⟩ (pick6 true)::fr::cs)) (W.at d):=by
  intro p o hs hp hU W hW d
  obtain ⟨v,hv,rfl,hsl⟩:=lm.live p hp o hU
  have hgW:Grown w (W.at d):=hW.at d
  have coW:=co.grown hgW
  have lmW:=lm.grown hgW
  have ho:v.C.o∈l:=by obtain ⟨f,m,A⟩:=coW.at_ _ v hv;exact A.mem
  have mn:∀ k,Mn kb L w k→Mn kb L (W.at d) k:=fun k h=>h.grow hgW.size
  refine main_goesOn coW hv _ _ (fun w' v' Inb' h1 h2 h3 h4 h5=>?_) (fun w' Inb' val err h1 h2 h3 h4=>?_)
  ·have lm':LibM kb l (ConcN.upd L v.C.o.gid (some v')) w' b K.nS B0 U V N Xs:=⟨lmW.m.turn h5,fun q hq o' ho'=>by
    obtain ⟨u,hu,he,hsl'⟩:=lm.live q hq o' ho'
    by_cases e:o'.gid=v.C.o.gid
    ·rw [e,ConcN.upd_same]
     rw [e,hv] at hu
     obtain rfl:=Option.some.inj hu
     exact ⟨v',rfl,by rw [h1];exact he,by rw [h1];exact hsl'⟩
    ·rw [ConcN.upd_ne _ _ e];exact ⟨u,hu,he,hsl'⟩⟩
   have fin:=fun d=>hmore p v hs hp hU hsl hv (w'.at d) v' Inb' h1 h2 h3 (h4.at d) (fun k hM=>by
    obtain ⟨m1,m2⟩:=h5 k (mn k hM)
    exact ⟨⟨m1.lt,m1.nf,m1.ns,m1.nd,m1.own⟩,m2.trans (hgW.old k hM.lt)⟩) (lm'.grown ⟨Nat.le_refl _,fun _ _=>rfl,h4.env.fit.clear⟩)
   have hc:=h4.env.fit.clear
   unfold pick6
   simp only [Tryd.f18,pO]
   rw [Frame.finish_at]
   refine Br.x_must (st:=true) ?_
   show Must Tryd.prog true (DL true (sfO l)) _ _ (w'.at w'.drawn)
   generalize w'.drawn=dz
   have hx:=fin
   clear fin lm' h5 h4
   go_simp
   refine Br.liv_region_end (fun d=>?_) _
   refine Br.mc rfl (fun u=>stepG_cond (t:=true) rfl) (fun d=>?_) _
   simp only [if_true,if_false,Bool.false_eq_true,↓reduceIte]
   refine Br.liv_seq (fun d=>?_) _
   refine Br.liv_region (fun d=>?_) _
   simp only [Br.rz,Br.ix,Nat.reduceAdd]
   refine Br.mo rfl rfl hc (fun d K' hK=>?_) _
   go_simp
   refine hK _ _ ⟨rfl,?_⟩
   clear hK K'
   refine Br.mo rfl rfl hc (fun d K' hK=>?_) _
   go_simp
   refine hK _ _ ⟨rfl,?_⟩
   clear hK K'
   refine Br.liv_region_end (fun d=>?_) _
   refine Br.liv_ret (fun d=>?_) _
   exact Br.liv_leave (v:=.tuple #[.bool false,.int .i64 0]) rfl rfl Tryd.func18 (resultsC_tmp2 (t:=4) (u:=5) rfl _) (w:=w') (fun d=>.stop (hx d)) _
  ·have hov:=pick_over (Final:=Final) h2 (lmW.m.turn h3) hp (hN p hp) ho h4 (fun q hq e o' ho'=>by
    obtain ⟨u,hu,he,hsl'⟩:=lm.live q hq o' ho'
    have eg:o'.gid≠v.C.o.gid:=fun eg=>by
     rw [eg,hv] at hu
     obtain rfl:=Option.some.inj hu
     rw [hsl] at hsl'
     exact e (by exact_mod_cast hsl'.symm)
    exact ⟨u,by rw [ConcN.upd_ne _ _ eg];exact hu,he,hsl'⟩) fr cs (fun w2 g cap hgn hco hz hk2 hlm=>hover p v hs hp hU hsl hv w2 Inb' val err g cap h1 (fun k hM hex e=>by
    subst e
    obtain ⟨m1,_⟩:=h3 k (mn k hM)
    rcases hgn with h|h
    ·exact hex (.inr (.inr h))
    ·have:=m1.lt;omega) hco (fun k hM hex=>by
    obtain ⟨m1,m2⟩:=h3 k (mn k hM)
    have h0:=hk2 k m1.lt (fun e=>hex (.inl e)) (fun e=>hex (.inr (.inl e))) (fun e=>hex (.inr (.inr e)))
    exact ⟨⟨Nat.lt_of_lt_of_le m1.lt hz,m1.nf,m1.ns,m1.nd,m1.own⟩,h0.trans (m2.trans (hgW.old k hM.lt))⟩) hlm)
   have hc:=h2.env.fit.clear
   unfold pickTail at hov
   unfold pick6
   simp only [Tryd.f18,pO] at *
   rw [Frame.finish_at]
   refine Br.x_must (st:=true) ?_
   show Must Tryd.prog true (DL true (sfO l)) _ _ (w'.at w'.drawn)
   generalize w'.drawn=dz
   clear h3 h2
   go_simp
   refine Br.liv_region_end (fun d=>?_) _
   refine Br.mc rfl (fun u=>stepG_cond (t:=false) rfl) (fun d=>?_) _
   simp only [if_true,if_false,Bool.false_eq_true,↓reduceIte]
   refine Br.liv_skip (fun d=>?_) _
   exact hov _
 rw [pick_enter]
 unfold pick6 at turn
 simp only [pickBody,Tryd.f18,Option.getD_some,pO] at *
 refine Br.x_must (st:=true) ?_
 show Must Tryd.prog true (DL true (sfO l)) _ _ (w.at w.drawn)
 generalize w.drawn=dz
 refine Br.liv_seq (fun d=>?_) _
 refine Br.liv_region (fun d=>?_) _
 simp only [Br.rz,Br.ix,Nat.reduceAdd]
 refine Br.mo rfl rfl hc (fun d K' hK=>?_) _
 go_simp
 refine hK _ _ ⟨rfl,?_⟩
 clear hK K'
 refine Br.mo rfl rfl hc (fun d K' hK=>?_) _
 go_simp
 refine hK _ _ ⟨rfl,?_⟩
 clear hK K'
 refine Br.liv_region_end (fun d=>?_) _
 refine Br.liv_seq (fun d=>?_) _
 refine Br.liv_seq (fun d=>?_) _
 refine Br.liv_region (fun d=>?_) _
 simp only [Br.rz,Br.ix,Nat.reduceAdd]
 refine Br.mo rfl rfl hc (fun d K' hK=>?_) _
 go_simp
 refine hK _ _ ⟨rfl,?_⟩
 clear hK K'
 refine Br.mo rfl rfl hc (fun d K' hK=>?_) _
 go_simp
 refine hK _ _ ⟨rfl,?_⟩
 clear hK K'
 refine Br.mc rfl (fun u=>stepG_call rfl rfl (by decide) rfl Tryd.func40 rfl rfl (vs:=#[.pointer (some ⟨b.bl,0,none⟩),.int .i64 s]) (by simp [Act.eval]) u) (fun d=>?_) _
 refine (must_isProcess co lm.m s _ _ d).then ?_
 rintro g W ⟨rfl,hW⟩
 have hc:=hW.clear
 have lmW:=lm.m.grown hW
 rw [Frame.finish_at,show W=W.at W.drawn from rfl]
 generalize W.drawn=dw
 cases hb:(decide (0≤s) && decide (s<(K.nS:Int))) with
 | false =>
  have hx:=fun d=>hno hb (W.at d) (hW.at d)
  clear hno hnil hmore hover turn lmW
  simp only [Act.put]
  go_simp
  refine Br.mo rfl rfl hc (fun d K' hK=>?_) _
  go_simp
  refine hK _ _ ⟨rfl,?_⟩
  clear hK K'
  refine Br.liv_region_end (fun d=>?_) _
  refine Br.mc rfl (fun u=>stepG_cond (t:=true) rfl) (fun d=>?_) _
  simp only [if_true,if_false,Bool.false_eq_true,↓reduceIte]
  refine Br.liv_seq (fun d=>?_) _
  refine Br.liv_region (fun d=>?_) _
  simp only [Br.rz,Br.ix,Nat.reduceAdd]
  refine Br.mo rfl rfl hc (fun d K' hK=>?_) _
  go_simp
  refine hK _ _ ⟨rfl,?_⟩
  clear hK K'
  refine Br.mo rfl rfl hc (fun d K' hK=>?_) _
  go_simp
  refine hK _ _ ⟨rfl,?_⟩
  clear hK K'
  refine Br.liv_region_end (fun d=>?_) _
  refine Br.liv_ret (fun d=>?_) _
  exact Br.liv_leave (v:=.tuple #[.bool false,.int .i64 3]) rfl rfl Tryd.func18 (resultsC_tmp2 (t:=4) (u:=5) rfl _) (w:=W) (fun d=>.stop (hx d)) _
 | true =>
  simp only [Bool.and_eq_true,decide_eq_true_eq] at hb
  obtain ⟨p,rfl⟩:∃ p:Nat,s=p:=⟨s.toNat,by omega⟩
  have hp:p<K.nS:=by omega
  have i0:(0:Int)≤(p:Int):=by omega
  have i1:(p:Int)<(K.nS:Int):=by omega
  have k1:=lmW.is.k1
  have cu:=lmW.is.u.cell hp
  cases hU:U p with
  | none =>
   have hx:=fun d=>hnil p rfl hp hU (W.at d) (hW.at d)
   rw [hU] at cu
   have cu':W.cell? ⟨b.bu,p,none⟩=some (.pointer none):=cu
   clear hno hnil hmore hover turn cu lmW
   simp only [Act.put]
   go_simp
   refine Br.mo rfl rfl hc (fun d K' hK=>?_) _
   go_simp
   refine hK _ _ ⟨rfl,?_⟩
   clear hK K'
   refine Br.liv_region_end (fun d=>?_) _
   refine Br.mc rfl (fun u=>stepG_cond (t:=false) rfl) (fun d=>?_) _
   simp only [if_true,if_false,Bool.false_eq_true,↓reduceIte]
   refine Br.liv_skip (fun d=>?_) _
   refine Br.liv_seq (fun d=>?_) _
   refine Br.liv_region (fun d=>?_) _
   simp only [Br.rz,Br.ix,Nat.reduceAdd]
   refine Br.mo rfl rfl hc (fun d K' hK=>?_) _
   go_simp
   refine hK _ _ ⟨rfl,?_⟩
   clear hK K'
   refine Br.mo rfl rfl hc (fun d K' hK=>?_) _
   go_simp
   refine hK _ _ ⟨rfl,?_⟩
   clear hK K'
   refine Br.mo rfl rfl hc (fun d K' hK=>?_) _
   go_simp
   refine hK _ _ ⟨rfl,?_⟩
   clear hK K'
   refine Br.mo rfl rfl hc (fun d K' hK=>?_) _
   have e1:(W.at d).cell? ⟨b.bl,1,none⟩=some (.slice (some ⟨b.bu,0,none⟩) K.nS K.nS):=k1
   go_simp
   refine hK _ _ ⟨rfl,?_⟩
   clear hK K'
   refine Br.mo rfl rfl hc (fun d K' hK=>?_) _
   go_simp
   refine hK _ _ ⟨rfl,?_⟩
   clear hK K'
   refine Br.mo rfl rfl hc (fun d K' hK=>?_) _
   go_simp
   refine hK _ _ ⟨rfl,?_⟩
   clear hK K'
   refine Br.mo rfl rfl hc (fun d K' hK=>?_) _
   have e2:(W.at d).cell? ⟨b.bu,p,none⟩=some (.pointer none):=cu'
   go_simp
   refine hK _ _ ⟨rfl,?_⟩
   clear hK K'
   refine Br.mo rfl rfl hc (fun d K' hK=>?_) _
   go_simp
   refine hK _ _ ⟨rfl,?_⟩
   clear hK K'
   refine Br.liv_region_end (fun d=>?_) _
   refine Br.liv_seq (fun d=>?_) _
   refine Br.liv_seq (fun d=>?_) _
   refine Br.liv_region (fun d=>?_) _
   simp only [Br.rz,Br.ix,Nat.reduceAdd]
   refine Br.mo rfl rfl hc (fun d K' hK=>?_) _
   go_simp
   refine hK _ _ ⟨rfl,?_⟩
   clear hK K'
   refine Br.mo rfl rfl hc (fun d K' hK=>?_) _
   go_simp
   refine hK _ _ ⟨rfl,?_⟩
   clear hK K'
   refine Br.liv_region_end (fun d=>?_) _
   refine Br.mc rfl (fun u=>stepG_cond (t:=true) rfl) (fun d=>?_) _
   simp only [if_true,if_false,Bool.false_eq_true,↓reduceIte]
   refine Br.liv_seq (fun d=>?_) _
   refine Br.liv_region (fun d=>?_) _
   simp only [Br.rz,Br.ix,Nat.reduceAdd]
   refine Br.mo rfl rfl hc (fun d K' hK=>?_) _
   go_simp
   refine hK _ _ ⟨rfl,?_⟩
   clear hK K'
   refine Br.mo rfl rfl hc (fun d K' hK=>?_) _
   go_simp
   refine hK _ _ ⟨rfl,?_⟩
   clear hK K'
   refine Br.liv_region_end (fun d=>?_) _
   refine Br.liv_ret (fun d=>?_) _
   exact Br.liv_leave (v:=.tuple #[.bool false,.int .i64 11]) rfl rfl Tryd.func18 (resultsC_tmp2 (t:=4) (u:=5) rfl _) (w:=W) (fun d=>.stop (hx d)) _
  | some o =>
   have tn:=fun d=>turn p o rfl hp hU W hW d
   rw [hU] at cu
   have cu':W.cell? ⟨b.bu,p,none⟩=some (.pointer (some ⟨o.bo,0,none⟩)):=cu
   clear hno hnil hmore hover turn cu lmW
   simp only [Act.put]
   go_simp
   refine Br.mo rfl rfl hc (fun d K' hK=>?_) _
   go_simp
   refine hK _ _ ⟨rfl,?_⟩
   clear hK K'
   refine Br.liv_region_end (fun d=>?_) _
   refine Br.mc rfl (fun u=>stepG_cond (t:=false) rfl) (fun d=>?_) _
   simp only [if_true,if_false,Bool.false_eq_true,↓reduceIte]
   refine Br.liv_skip (fun d=>?_) _
   refine Br.liv_seq (fun d=>?_) _
   refine Br.liv_region (fun d=>?_) _
   simp only [Br.rz,Br.ix,Nat.reduceAdd]
   refine Br.mo rfl rfl hc (fun d K' hK=>?_) _
   go_simp
   refine hK _ _ ⟨rfl,?_⟩
   clear hK K'
   refine Br.mo rfl rfl hc (fun d K' hK=>?_) _
   go_simp
   refine hK _ _ ⟨rfl,?_⟩
   clear hK K'
   refine Br.mo rfl rfl hc (fun d K' hK=>?_) _
   go_simp
   refine hK _ _ ⟨rfl,?_⟩
   clear hK K'
   refine Br.mo rfl rfl hc (fun d K' hK=>?_) _
   have e1:(W.at d).cell? ⟨b.bl,1,none⟩=some (.slice (some ⟨b.bu,0,none⟩) K.nS K.nS):=k1
   go_simp
   refine hK _ _ ⟨rfl,?_⟩
   clear hK K'
   refine Br.mo rfl rfl hc (fun d K' hK=>?_) _
   go_simp
   refine hK _ _ ⟨rfl,?_⟩
   clear hK K'
   refine Br.mo rfl rfl hc (fun d K' hK=>?_) _
   go_simp
   refine hK _ _ ⟨rfl,?_⟩
   clear hK K'
   refine Br.mo rfl rfl hc (fun d K' hK=>?_) _
   have e2:(W.at d).cell? ⟨b.bu,p,none⟩=some (.pointer (some ⟨o.bo,0,none⟩)):=cu'
   go_simp
   refine hK _ _ ⟨rfl,?_⟩
   clear hK K'
   refine Br.mo rfl rfl hc (fun d K' hK=>?_) _
   go_simp
   refine hK _ _ ⟨rfl,?_⟩
   clear hK K'
   refine Br.liv_region_end (fun d=>?_) _
   refine Br.liv_seq (fun d=>?_) _
   refine Br.liv_seq (fun d=>?_) _
   refine Br.liv_region (fun d=>?_) _
   simp only [Br.rz,Br.ix,Nat.reduceAdd]
   refine Br.mo rfl rfl hc (fun d K' hK=>?_) _
   go_simp
   refine hK _ _ ⟨rfl,?_⟩
   clear hK K'
   refine Br.mo rfl rfl hc (fun d K' hK=>?_) _
   go_simp
   refine hK _ _ ⟨rfl,?_⟩
   clear hK K'
   refine Br.liv_region_end (fun d=>?_) _
   refine Br.mc rfl (fun u=>stepG_cond (t:=false) rfl) (fun d=>?_) _
   simp only [if_true,if_false,Bool.false_eq_true,↓reduceIte]
   refine Br.liv_skip (fun d=>?_) _
   refine Br.liv_seq (fun d=>?_) _
   refine Br.liv_seq (fun d=>?_) _
   refine Br.liv_region (fun d=>?_) _
   simp only [Br.rz,Br.ix,Nat.reduceAdd]
   refine Br.mo rfl rfl hc (fun d K' hK=>?_) _
   go_simp
   refine hK _ _ ⟨rfl,?_⟩
   clear hK K'
   refine Br.mc rfl (fun u=>stepG_call rfl rfl (by decide) rfl Tryd.func42 rfl rfl (vs:=#[.pointer (some ⟨o.bo,0,none⟩)]) (by simp [Act.eval]) u) (fun d=>?_) _
   exact .stop (tn _)
end
noncomputable def bgOps:Array Oper :=
 match Tryd.f17.body with
 | some (.seq _ (.seq _ (.seq _ (.seq _ (.seq (.region _ ops _) _)))))=>ops
 | _=>#[]
theorem bg_one:Br.oneDst bgOps=true:=by kernel_rfl
def bgV (bl bu bk n p:Nat)(kd A B:Int)(q:Value):Nat→Value
 | 0=>.pointer (some ⟨bl,0,none⟩)|1=>.pointer (some ⟨bl,0,none⟩)|2=>.pointer (some ⟨bl,1,none⟩)|3=>.slice (some ⟨bu,0,none⟩) n n|4=>.int .i64 p
 | 5=>.pointer (some ⟨bl,0,none⟩)|6=>.pointer (some ⟨bl,0,none⟩)|7=>.pointer (some ⟨bl,0,none⟩)|8=>.pointer (some ⟨bk,0,none⟩)|9=>.int .i64 p|10=>.agg #[.int .i64 kd,.int .i64 A,.int .i64 B]
 | 11=>q|12=>.pointer (some ⟨bu,p,none⟩)|_=>undef
structure BgS (w:World) (bl bu bk n bx:Nat) (kd A B:Int):Prop where
 k:w.cell? ⟨bl,0,none⟩=some (.pointer (some ⟨bk,0,none⟩))
 u:w.cell? ⟨bl,1,none⟩=some (.slice (some ⟨bu,0,none⟩) n n)
 x0:w.cell? ⟨bx,0,none⟩=some (.int .i64 kd)
 x1:w.cell? ⟨bx,1,none⟩=some (.int .i64 A)
 x2:w.cell? ⟨bx,2,none⟩=some (.int .i64 B)
theorem bg_phB {l:List OpD}{Stop:Goroutine→World→Prop}{bl bu bk n p bx:Nat}{kd A B:Int}{tb:Array Value}(h40:tb.size=40)(b0:tb[0]?=some (.pointer (some ⟨bl,0,none⟩)))(b1:tb[1]?=some (.int .i64 p))(b5:tb[5]?=some (.pointer (some ⟨bx,0,none⟩)))(hp:p<n){w w3:World}(hc:Clear w)(hS:BgS w bl bu bk n bx kd A B)(qv:Value)(k:List Item)(cs:List Frame)
  (r13:∀ (o:Oper) (a:Act) (rest:List Nat) (d:Nat),bgOps[13]?=some o→o.op=.store 106 (.tmp 39) (.tmp 38)→o.guard=none→a.eval (.tmp 39)=.pointer (some ⟨bu,p,none⟩)→a.eval (.tmp 38)=qv→(∀ d,Must Tryd.prog true (DL true (sfO l)) Stop (G ((base 17).at (a.put o.dst undef) (.inRegion bgOps rest::k)) cs) (w3.at d))→Must Tryd.prog true (DL true (sfO l)) Stop (G ((base 17).at a (.inRegion bgOps (13::rest)::k)) cs) (w.at d))
  (hfin:∀ d,Must Tryd.prog true (DL true (sfO l)) Stop (G ((base 17).at ⟨Br.fill bgOps (bgV bl bu bk n p kd A B qv) tb,[]⟩ (.inRegion bgOps [] :: k)) cs) (w3.at d)) :
  ∀ fuel listed (aw:Act × World) rest,Br.Ord bgOps fuel listed rest→(Br.Agr bgOps (bgV bl bu bk n p kd A B qv) tb listed aw.1∧aw.2=(if listed.getD 13 false then w3 else w)∧listed.getD 11 false=true∧(listed.getD 12 false=true→∀ j,j≤11→listed.getD j false=true)∧(listed.getD 13 false=true→listed.getD 12 false=true))→∀ d,Must Tryd.prog true (DL true (sfO l)) Stop (G ((base 17).at aw.1 (.inRegion bgOps rest::k)) cs) (aw.2.at d):=by
 have i0:(0:Int)≤(p:Int):=by omega
 have i1:(p:Int)<(n:Int):=by omega
 refine ord_anyS (J:=fun (aw:Act × World) rest=>∀ d,Must Tryd.prog true (DL true (sfO l)) Stop (G ((base 17).at aw.1 (.inRegion bgOps rest::k)) cs) (aw.2.at d)) (fun f0 listed aw q rest hi hA2 hO hIH=>?_) (fun listed aw hr hA2=>?_)
 ·obtain ⟨a,w'⟩:=aw
  obtain ⟨hA,hw,h11,h12,h13⟩:=hA2
  simp only at hA hw
  have Hw:Hid (w'=(if listed.getD 13 false then w3 else w)):=hw
  clear hw
  have no13:q≤12→listed.getD 13 false=false:=fun hq=>by
   cases e:listed.getD 13 false with
   | false=>rfl
   | true =>
    have e12:=h13 e
    rcases Nat.lt_or_ge q 12 with h|h
    ·exact (Br.ready_no hi (h12 e12 q (by omega))).elim
    ·obtain rfl:q=12:=by omega
     exact (Br.ready_no hi e12).elim
  have hww:Hid (q≤12→w'=w):=fun hq=>by rw [Hw.out,no13 hq];rfl
  have keep:q≤10∨q=12→(q=12→∀ j,j≤11→listed.getD j false=true)→∀ a',Br.Agr bgOps (bgV bl bu bk n p kd A B qv) tb (listed.setIfInBounds q true) a'→∀ d,Must Tryd.prog true (DL true (sfO l)) Stop (G ((base 17).at a' (.inRegion bgOps rest::k)) cs) (w.at d):=fun hq h12q a' h=>hIH (a',w) ⟨h,by rw [set_else (by omega),no13 (by omega)];rfl,Br.set_on h11,fun h1 j hj=>(by
    by_cases e:q=12
    ·exact Br.set_on (h12q e j hj)
    ·rw [set_else e] at h1;exact Br.set_on (h12 h1 j hj)),fun h1=>by rw [set_else (by omega),no13 (by omega)] at h1;cases h1⟩
  have hlt:=Br.ready_lt hi
  have hz:bgOps.size=14:=by kernel_rfl
  rw [hz] at hlt
  have hcs:q=0∨q=1∨q=2∨q=3∨q=4∨q=5∨q=6∨q=7∨q=8∨q=9∨q=10∨q=11∨q=12∨q=13:=by omega
  rcases hcs with rfl|rfl|rfl|rfl|rfl|rfl|rfl|rfl|rfl|rfl|rfl|rfl|rfl|rfl
  ·obtain ⟨o,ho,hop,hg⟩:∃ o,bgOps[0]?=some o∧o.op=.move (.tmp 0)∧o.guard=none:=⟨_,rfl,rfl,rfl⟩
   have e0:a.eval (.tmp 0)=.pointer (some ⟨bl,0,none⟩):=hA.base (by kernel_rfl) b0
   obtain rfl:=hww.out (by omega)
   clear hww Hw
   exact fun d=>must_pure ho hg (by decide) (by rw [hop];rfl) hc (v:=.pointer (some ⟨bl,0,none⟩)) (fun d=>(run_move hop e0)) (keep (by omega) (fun e=>by omega) _ (hA.put bg_one ho rfl)) d
  ·obtain ⟨o,ho,hop,hg⟩:∃ o,bgOps[1]?=some o∧o.op=.nilCheck (.tmp 27)∧o.guard=none:=⟨_,rfl,rfl,rfl⟩
   have e27:a.eval (.tmp 27)=.pointer (some ⟨bl,0,none⟩):=hA.tmp (j:=0) rfl rfl (Br.ready_after hi rfl (by kernel_rfl)) (by omega) rfl
   obtain rfl:=hww.out (by omega)
   clear hww Hw
   exact fun d=>must_pure ho hg (by decide) (by rw [hop];rfl) hc (v:=.pointer (some ⟨bl,0,none⟩)) (fun d=>(by unfold execOp;simp only [hop,e27];go_simp)) (keep (by omega) (fun e=>by omega) _ (hA.put bg_one ho rfl)) d
  ·obtain ⟨o,ho,hop,hg⟩:∃ o,bgOps[2]?=some o∧o.op=.fieldAddr 104 (.tmp 28) 1∧o.guard=none:=⟨_,rfl,rfl,rfl⟩
   have e28:a.eval (.tmp 28)=.pointer (some ⟨bl,0,none⟩):=hA.tmp (j:=1) rfl rfl (Br.ready_after hi rfl (by kernel_rfl)) (by omega) rfl
   obtain rfl:=hww.out (by omega)
   clear hww Hw
   exact fun d=>must_pure ho hg (by decide) (by rw [hop];rfl) hc (v:=.pointer (some ⟨bl,1,none⟩)) (fun d=>(by unfold execOp;simp only [hop,e28];go_simp)) (keep (by omega) (fun e=>by omega) _ (hA.put bg_one ho rfl)) d
  ·obtain ⟨o,ho,hop,hg⟩:∃ o,bgOps[3]?=some o∧o.op=.load 102 (.tmp 29)∧o.guard=none:=⟨_,rfl,rfl,rfl⟩
   have e29:a.eval (.tmp 29)=.pointer (some ⟨bl,1,none⟩):=hA.tmp (j:=2) rfl rfl (Br.ready_after hi rfl (by kernel_rfl)) (by omega) rfl
   obtain rfl:=hww.out (by omega)
   clear hww Hw
   exact fun d=>must_pure ho hg (by decide) (by rw [hop];rfl) hc (v:=.slice (some ⟨bu,0,none⟩) n n) (fun d=>(by have y0:(w'.at d).cell? _=_:=hS.k;have y1:(w'.at d).cell? _=_:=hS.u;have y2:(w'.at d).cell? _=_:=hS.x0;have y3:(w'.at d).cell? _=_:=hS.x1;have y4:(w'.at d).cell? _=_:=hS.x2;unfold execOp;simp only [hop,e29];go_simp)) (keep (by omega) (fun e=>by omega) _ (hA.put bg_one ho rfl)) d
  ·obtain ⟨o,ho,hop,hg⟩:∃ o,bgOps[4]?=some o∧o.op=.move (.tmp 1)∧o.guard=none:=⟨_,rfl,rfl,rfl⟩
   have e1:a.eval (.tmp 1)=.int .i64 p:=hA.base (by kernel_rfl) b1
   obtain rfl:=hww.out (by omega)
   clear hww Hw
   exact fun d=>must_pure ho hg (by decide) (by rw [hop];rfl) hc (v:=.int .i64 p) (fun d=>(run_move hop e1)) (keep (by omega) (fun e=>by omega) _ (hA.put bg_one ho rfl)) d
  ·obtain ⟨o,ho,hop,hg⟩:∃ o,bgOps[5]?=some o∧o.op=.move (.tmp 0)∧o.guard=none:=⟨_,rfl,rfl,rfl⟩
   have e0:a.eval (.tmp 0)=.pointer (some ⟨bl,0,none⟩):=hA.base (by kernel_rfl) b0
   obtain rfl:=hww.out (by omega)
   clear hww Hw
   exact fun d=>must_pure ho hg (by decide) (by rw [hop];rfl) hc (v:=.pointer (some ⟨bl,0,none⟩)) (fun d=>(run_move hop e0)) (keep (by omega) (fun e=>by omega) _ (hA.put bg_one ho rfl)) d
  ·obtain ⟨o,ho,hop,hg⟩:∃ o,bgOps[6]?=some o∧o.op=.nilCheck (.tmp 32)∧o.guard=none:=⟨_,rfl,rfl,rfl⟩
   have e32:a.eval (.tmp 32)=.pointer (some ⟨bl,0,none⟩):=hA.tmp (j:=5) rfl rfl (Br.ready_after hi rfl (by kernel_rfl)) (by omega) rfl
   obtain rfl:=hww.out (by omega)
   clear hww Hw
   exact fun d=>must_pure ho hg (by decide) (by rw [hop];rfl) hc (v:=.pointer (some ⟨bl,0,none⟩)) (fun d=>(by unfold execOp;simp only [hop,e32];go_simp)) (keep (by omega) (fun e=>by omega) _ (hA.put bg_one ho rfl)) d
  ·obtain ⟨o,ho,hop,hg⟩:∃ o,bgOps[7]?=some o∧o.op=.fieldAddr 104 (.tmp 33) 0∧o.guard=none:=⟨_,rfl,rfl,rfl⟩
   have e33:a.eval (.tmp 33)=.pointer (some ⟨bl,0,none⟩):=hA.tmp (j:=6) rfl rfl (Br.ready_after hi rfl (by kernel_rfl)) (by omega) rfl
   obtain rfl:=hww.out (by omega)
   clear hww Hw
   exact fun d=>must_pure ho hg (by decide) (by rw [hop];rfl) hc (v:=.pointer (some ⟨bl,0,none⟩)) (fun d=>(by unfold execOp;simp only [hop,e33];go_simp)) (keep (by omega) (fun e=>by omega) _ (hA.put bg_one ho rfl)) d
  ·obtain ⟨o,ho,hop,hg⟩:∃ o,bgOps[8]?=some o∧o.op=.load 25 (.tmp 34)∧o.guard=none:=⟨_,rfl,rfl,rfl⟩
   have e34:a.eval (.tmp 34)=.pointer (some ⟨bl,0,none⟩):=hA.tmp (j:=7) rfl rfl (Br.ready_after hi rfl (by kernel_rfl)) (by omega) rfl
   obtain rfl:=hww.out (by omega)
   clear hww Hw
   exact fun d=>must_pure ho hg (by decide) (by rw [hop];rfl) hc (v:=.pointer (some ⟨bk,0,none⟩)) (fun d=>(by have y0:(w'.at d).cell? _=_:=hS.k;have y1:(w'.at d).cell? _=_:=hS.u;have y2:(w'.at d).cell? _=_:=hS.x0;have y3:(w'.at d).cell? _=_:=hS.x1;have y4:(w'.at d).cell? _=_:=hS.x2;unfold execOp;simp only [hop,e34];go_simp)) (keep (by omega) (fun e=>by omega) _ (hA.put bg_one ho rfl)) d
  ·obtain ⟨o,ho,hop,hg⟩:∃ o,bgOps[9]?=some o∧o.op=.move (.tmp 1)∧o.guard=none:=⟨_,rfl,rfl,rfl⟩
   have e1:a.eval (.tmp 1)=.int .i64 p:=hA.base (by kernel_rfl) b1
   obtain rfl:=hww.out (by omega)
   clear hww Hw
   exact fun d=>must_pure ho hg (by decide) (by rw [hop];rfl) hc (v:=.int .i64 p) (fun d=>(run_move hop e1)) (keep (by omega) (fun e=>by omega) _ (hA.put bg_one ho rfl)) d
  ·obtain ⟨o,ho,hop,hg⟩:∃ o,bgOps[10]?=some o∧o.op=.load 38 (.tmp 5)∧o.guard=none:=⟨_,rfl,rfl,rfl⟩
   have e5:a.eval (.tmp 5)=.pointer (some ⟨bx,0,none⟩):=hA.base (by kernel_rfl) b5
   obtain rfl:=hww.out (by omega)
   clear hww Hw
   exact fun d=>must_pure ho hg (by decide) (by rw [hop];rfl) hc (v:=.agg #[.int .i64 kd,.int .i64 A,.int .i64 B]) (fun d=>(by have y0:(w'.at d).cell? _=_:=hS.k;have y1:(w'.at d).cell? _=_:=hS.u;have y2:(w'.at d).cell? _=_:=hS.x0;have y3:(w'.at d).cell? _=_:=hS.x1;have y4:(w'.at d).cell? _=_:=hS.x2;unfold execOp;simp only [hop,e5];go_simp)) (keep (by omega) (fun e=>by omega) _ (hA.put bg_one ho rfl)) d
  ·exact (Br.ready_no hi h11).elim
  ·obtain ⟨o,ho,hop,hg⟩:∃ o,bgOps[12]?=some o∧o.op=.indexAddr 102 (.tmp 30) (.tmp 31)∧o.guard=none:=⟨_,rfl,rfl,rfl⟩
   have e30:a.eval (.tmp 30)=.slice (some ⟨bu,0,none⟩) n n:=hA.tmp (j:=3) rfl rfl (Br.ready_after hi rfl (by kernel_rfl)) (by omega) rfl
   have e31:a.eval (.tmp 31)=.int .i64 p:=hA.tmp (j:=4) rfl rfl (Br.ready_after hi rfl (by kernel_rfl)) (by omega) rfl
   obtain rfl:=hww.out (by omega)
   clear hww Hw
   exact fun d=>must_pure ho hg (by decide) (by rw [hop];rfl) hc (v:=.pointer (some ⟨bu,p,none⟩)) (fun d=>(by unfold execOp;simp only [hop,e30,e31];go_simp)) (keep (by omega) (fun _ j hj=>by (have hcs:j=0∨j=1∨j=2∨j=3∨j=4∨j=5∨j=6∨j=7∨j=8∨j=9∨j=10∨j=11:=by omega);rcases hcs with rfl|rfl|rfl|rfl|rfl|rfl|rfl|rfl|rfl|rfl|rfl|rfl<;>exact Br.ready_after hi rfl (by kernel_rfl)) _ (hA.put bg_one ho rfl)) d
  ·obtain ⟨o,ho,hop,hg⟩:∃ o,bgOps[13]?=some o∧o.op=.store 106 (.tmp 39) (.tmp 38)∧o.guard=none:=⟨_,rfl,rfl,rfl⟩
   have e39:a.eval (.tmp 39)=.pointer (some ⟨bu,p,none⟩):=hA.tmp (j:=12) rfl rfl (Br.ready_after hi rfl (by kernel_rfl)) (by omega) rfl
   have e38:a.eval (.tmp 38)=qv:=hA.tmp (j:=11) rfl rfl h11 (by omega) rfl
   have l12:listed.getD 12 false=true:=Br.ready_after hi rfl (by kernel_rfl)
   have f13:=ready_false hi
   obtain rfl:w'=w:=by rw [Hw.out,f13];rfl
   exact fun d=>r13 o a rest d ho hop hg e39 e38 (hIH (_,w3) ⟨hA.put bg_one ho rfl,by rw [Br.set_now hi];rfl,Br.set_on h11,fun _ j hj=>Br.set_on (h12 l12 j hj),fun _=>Br.set_on l12⟩)
 ·obtain ⟨a,w'⟩:=aw
  obtain ⟨hA,hw,h11,h12,h13⟩:=hA2
  simp only at hA hw
  have hall:=Br.all_listed (by kernel_rfl) hA.len hr
  have hz:bgOps.size=14:=by kernel_rfl
  obtain rfl:=hA.full hall
  obtain rfl:w'=w3:=by rw [hw,hall 13 (by omega)];rfl
  exact hfin
theorem bg_phA {l:List OpD}{Stop:Goroutine→World→Prop}{bl bu bk n p bx:Nat}{kd A B:Int}{tb:Array Value}(h40:tb.size=40)(b0:tb[0]?=some (.pointer (some ⟨bl,0,none⟩)))(b1:tb[1]?=some (.int .i64 p))(b5:tb[5]?=some (.pointer (some ⟨bx,0,none⟩)))(hp:p<n){w:World}(hc:Clear w)(hS:BgS w bl bu bk n bx kd A B)(k:List Item)(cs:List Frame)
  (r11:∀ (fuel:Nat) (listed:Array Bool) (a:Act) (rest:List Nat) (d:Nat),Br.Ord bgOps fuel (listed.setIfInBounds 11 true) rest→Br.Agr bgOps (bgV bl bu bk n p kd A B undef) tb listed a→11∈Region.ready .any bgOps listed→(∀ j,11≤j→listed.getD j false=false)→Must Tryd.prog true (DL true (sfO l)) Stop (G ((base 17).at a (.inRegion bgOps (11::rest)::k)) cs) (w.at d)) :
  ∀ fuel listed a rest,Br.Ord bgOps fuel listed rest→(Br.Agr bgOps (bgV bl bu bk n p kd A B undef) tb listed a∧∀ j,11≤j→listed.getD j false=false)→∀ d,Must Tryd.prog true (DL true (sfO l)) Stop (G ((base 17).at a (.inRegion bgOps rest::k)) cs) (w.at d):=by
 have i0:(0:Int)≤(p:Int):=by omega
 have i1:(p:Int)<(n:Int):=by omega
 refine Br.ord_any (J:=fun a rest=>∀ d,Must Tryd.prog true (DL true (sfO l)) Stop (G ((base 17).at a (.inRegion bgOps rest::k)) cs) (w.at d)) (fun f0 listed a q rest hi hA2 hO hIH=>?_) (fun listed a hr hA2=>?_)
 ·obtain ⟨hA,hoff⟩:=hA2
  have keep:q≤10→∀ a',Br.Agr bgOps (bgV bl bu bk n p kd A B undef) tb (listed.setIfInBounds q true) a'→∀ d,Must Tryd.prog true (DL true (sfO l)) Stop (G ((base 17).at a' (.inRegion bgOps rest::k)) cs) (w.at d):=fun hq a' h=>hIH a' ⟨h,fun j hj=>by rw [set_else (by omega)];exact hoff j hj⟩
  have hlt:=Br.ready_lt hi
  have hz:bgOps.size=14:=by kernel_rfl
  rw [hz] at hlt
  have hcs:q=0∨q=1∨q=2∨q=3∨q=4∨q=5∨q=6∨q=7∨q=8∨q=9∨q=10∨q=11∨q=12∨q=13:=by omega
  rcases hcs with rfl|rfl|rfl|rfl|rfl|rfl|rfl|rfl|rfl|rfl|rfl|rfl|rfl|rfl
  ·obtain ⟨o,ho,hop,hg⟩:∃ o,bgOps[0]?=some o∧o.op=.move (.tmp 0)∧o.guard=none:=⟨_,rfl,rfl,rfl⟩
   have e0:a.eval (.tmp 0)=.pointer (some ⟨bl,0,none⟩):=hA.base (by kernel_rfl) b0
   exact fun d=>must_pure ho hg (by decide) (by rw [hop];rfl) hc (v:=.pointer (some ⟨bl,0,none⟩)) (fun d=>(run_move hop e0)) (keep (by omega) _ (hA.put bg_one ho rfl)) d
  ·obtain ⟨o,ho,hop,hg⟩:∃ o,bgOps[1]?=some o∧o.op=.nilCheck (.tmp 27)∧o.guard=none:=⟨_,rfl,rfl,rfl⟩
   have e27:a.eval (.tmp 27)=.pointer (some ⟨bl,0,none⟩):=hA.tmp (j:=0) rfl rfl (Br.ready_after hi rfl (by kernel_rfl)) (by omega) rfl
   exact fun d=>must_pure ho hg (by decide) (by rw [hop];rfl) hc (v:=.pointer (some ⟨bl,0,none⟩)) (fun d=>(by unfold execOp;simp only [hop,e27];go_simp)) (keep (by omega) _ (hA.put bg_one ho rfl)) d
  ·obtain ⟨o,ho,hop,hg⟩:∃ o,bgOps[2]?=some o∧o.op=.fieldAddr 104 (.tmp 28) 1∧o.guard=none:=⟨_,rfl,rfl,rfl⟩
   have e28:a.eval (.tmp 28)=.pointer (some ⟨bl,0,none⟩):=hA.tmp (j:=1) rfl rfl (Br.ready_after hi rfl (by kernel_rfl)) (by omega) rfl
   exact fun d=>must_pure ho hg (by decide) (by rw [hop];rfl) hc (v:=.pointer (some ⟨bl,1,none⟩)) (fun d=>(by unfold execOp;simp only [hop,e28];go_simp)) (keep (by omega) _ (hA.put bg_one ho rfl)) d
  ·obtain ⟨o,ho,hop,hg⟩:∃ o,bgOps[3]?=some o∧o.op=.load 102 (.tmp 29)∧o.guard=none:=⟨_,rfl,rfl,rfl⟩
   have e29:a.eval (.tmp 29)=.pointer (some ⟨bl,1,none⟩):=hA.tmp (j:=2) rfl rfl (Br.ready_after hi rfl (by kernel_rfl)) (by omega) rfl
   exact fun d=>must_pure ho hg (by decide) (by rw [hop];rfl) hc (v:=.slice (some ⟨bu,0,none⟩) n n) (fun d=>(by have y0:(w.at d).cell? _=_:=hS.k;have y1:(w.at d).cell? _=_:=hS.u;have y2:(w.at d).cell? _=_:=hS.x0;have y3:(w.at d).cell? _=_:=hS.x1;have y4:(w.at d).cell? _=_:=hS.x2;unfold execOp;simp only [hop,e29];go_simp)) (keep (by omega) _ (hA.put bg_one ho rfl)) d
  ·obtain ⟨o,ho,hop,hg⟩:∃ o,bgOps[4]?=some o∧o.op=.move (.tmp 1)∧o.guard=none:=⟨_,rfl,rfl,rfl⟩
   have e1:a.eval (.tmp 1)=.int .i64 p:=hA.base (by kernel_rfl) b1
   exact fun d=>must_pure ho hg (by decide) (by rw [hop];rfl) hc (v:=.int .i64 p) (fun d=>(run_move hop e1)) (keep (by omega) _ (hA.put bg_one ho rfl)) d
  ·obtain ⟨o,ho,hop,hg⟩:∃ o,bgOps[5]?=some o∧o.op=.move (.tmp 0)∧o.guard=none:=⟨_,rfl,rfl,rfl⟩
   have e0:a.eval (.tmp 0)=.pointer (some ⟨bl,0,none⟩):=hA.base (by kernel_rfl) b0
   exact fun d=>must_pure ho hg (by decide) (by rw [hop];rfl) hc (v:=.pointer (some ⟨bl,0,none⟩)) (fun d=>(run_move hop e0)) (keep (by omega) _ (hA.put bg_one ho rfl)) d
  ·obtain ⟨o,ho,hop,hg⟩:∃ o,bgOps[6]?=some o∧o.op=.nilCheck (.tmp 32)∧o.guard=none:=⟨_,rfl,rfl,rfl⟩
   have e32:a.eval (.tmp 32)=.pointer (some ⟨bl,0,none⟩):=hA.tmp (j:=5) rfl rfl (Br.ready_after hi rfl (by kernel_rfl)) (by omega) rfl
   exact fun d=>must_pure ho hg (by decide) (by rw [hop];rfl) hc (v:=.pointer (some ⟨bl,0,none⟩)) (fun d=>(by unfold execOp;simp only [hop,e32];go_simp)) (keep (by omega) _ (hA.put bg_one ho rfl)) d
  ·obtain ⟨o,ho,hop,hg⟩:∃ o,bgOps[7]?=some o∧o.op=.fieldAddr 104 (.tmp 33) 0∧o.guard=none:=⟨_,rfl,rfl,rfl⟩
   have e33:a.eval (.tmp 33)=.pointer (some ⟨bl,0,none⟩):=hA.tmp (j:=6) rfl rfl (Br.ready_after hi rfl (by kernel_rfl)) (by omega) rfl
   exact fun d=>must_pure ho hg (by decide) (by rw [hop];rfl) hc (v:=.pointer (some ⟨bl,0,none⟩)) (fun d=>(by unfold execOp;simp only [hop,e33];go_simp)) (keep (by omega) _ (hA.put bg_one ho rfl)) d
  ·obtain ⟨o,ho,hop,hg⟩:∃ o,bgOps[8]?=some o∧o.op=.load 25 (.tmp 34)∧o.guard=none:=⟨_,rfl,rfl,rfl⟩
   have e34:a.eval (.tmp 34)=.pointer (some ⟨bl,0,none⟩):=hA.tmp (j:=7) rfl rfl (Br.ready_after hi rfl (by kernel_rfl)) (by omega) rfl
   exact fun d=>must_pure ho hg (by decide) (by rw [hop];rfl) hc (v:=.pointer (some ⟨bk,0,none⟩)) (fun d=>(by have y0:(w.at d).cell? _=_:=hS.k;have y1:(w.at d).cell? _=_:=hS.u;have y2:(w.at d).cell? _=_:=hS.x0;have y3:(w.at d).cell? _=_:=hS.x1;have y4:(w.at d).cell? _=_:=hS.x2;unfold execOp;simp only [hop,e34];go_simp)) (keep (by omega) _ (hA.put bg_one ho rfl)) d
  ·obtain ⟨o,ho,hop,hg⟩:∃ o,bgOps[9]?=some o∧o.op=.move (.tmp 1)∧o.guard=none:=⟨_,rfl,rfl,rfl⟩
   have e1:a.eval (.tmp 1)=.int .i64 p:=hA.base (by kernel_rfl) b1
   exact fun d=>must_pure ho hg (by decide) (by rw [hop];rfl) hc (v:=.int .i64 p) (fun d=>(run_move hop e1)) (keep (by omega) _ (hA.put bg_one ho rfl)) d
  ·obtain ⟨o,ho,hop,hg⟩:∃ o,bgOps[10]?=some o∧o.op=.load 38 (.tmp 5)∧o.guard=none:=⟨_,rfl,rfl,rfl⟩
   have e5:a.eval (.tmp 5)=.pointer (some ⟨bx,0,none⟩):=hA.base (by kernel_rfl) b5
   exact fun d=>must_pure ho hg (by decide) (by rw [hop];rfl) hc (v:=.agg #[.int .i64 kd,.int .i64 A,.int .i64 B]) (fun d=>(by have y0:(w.at d).cell? _=_:=hS.k;have y1:(w.at d).cell? _=_:=hS.u;have y2:(w.at d).cell? _=_:=hS.x0;have y3:(w.at d).cell? _=_:=hS.x1;have y4:(w.at d).cell? _=_:=hS.x2;unfold execOp;simp only [hop,e5];go_simp)) (keep (by omega) _ (hA.put bg_one ho rfl)) d
  ·exact fun d=>r11 f0 listed a rest d hO hA hi hoff
  ·exact (Br.ready_off hi rfl (j:=11) (hoff 11 (by omega)) (by kernel_rfl)).elim
  ·exact (Br.ready_off hi rfl (j:=11) (hoff 11 (by omega)) (by kernel_rfl)).elim
 ·exact absurd (Br.all_listed (by kernel_rfl) hA2.1.len hr 11 (by show 11<14;omega)) (by rw [hA2.2 11 (by omega)];simp)
end Go.Proofs.YtcgabodkegcpgaaDoor
