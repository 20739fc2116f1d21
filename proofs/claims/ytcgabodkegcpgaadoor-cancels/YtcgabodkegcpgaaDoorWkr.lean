/- Cancels' third loop: nothing is under way, all is as it was, and may begin anew. No statement of the program is proved here. -/
import Derived.Test.YtcgabodkegcpgaaDoorWkq
namespace Go.Proofs.YtcgabodkegcpgaaDoor
open Go.Conc Go.RowKit
open Br (X OpD KO SO SP sfO Lk Fit Must DL Liv Clear)
set_option linter.unusedVariables false
set_option linter.unusedSimpArgs false
set_option maxHeartbeats 4000000
structure ES (S:Nat→Prop) (wr:World) (kb:Kb) (b:Lb) (l:List OpD) (L:Nat→Option Lv) (w:World):Prop where
 mn:∀ k,S k→Mn kb L w k
 rc:∀ k,S k→∀ o∈l,o.bo≠k
 nu:∀ k,S k→k≠b.bu
 has:∀ k,S k→w.heap[k]?=wr.heap[k]?
section
variable {S:Nat→Prop} {wr:World} {kb:Kb} {b:Lb} {l:List OpD} {L L':Nat→Option Lv} {nG:Nat} {w w':World}
theorem ES.grown (h:ES S wr kb b l L w)(g:Grown w w'):ES S wr kb b l L w' :=
 ⟨fun k hk=>(h.mn k hk).grow g.size,h.rc,h.nu,fun k hk=>(g.old _ (h.mn k hk).lt).trans (h.has k hk)⟩
theorem ES.sf (h:ES S wr kb b l L w){k:Nat}(hk:S k):sfO l k=0:=Br.sfO_zero (h.rc k hk)
theorem ES.keep (h:ES S wr kb b l L w){l':List OpD}(hl:∀ k,S k→∀ o∈l',o∈l∨o.bo≠k)(hk:∀ k,Mn kb L w k→k≠b.bu→Mn kb L' w' k∧w'.heap[k]?=w.heap[k]?):ES S wr kb b l' L' w' :=
 ⟨fun k hs=>(hk _ (h.mn k hs) (h.nu k hs)).1,fun k hs o ho=>(hl k hs o ho).elim (h.rc k hs o) id,h.nu,fun k hs=>(hk _ (h.mn k hs) (h.nu k hs)).2.trans (h.has k hs)⟩
theorem ES.begun (h:ES S wr kb b l L w){C:Ctx}{St:Ker→Strat}{H:Heap}{cs:List Frame}(hk:∀ k,Mn kb L w k→k≠b.bu→Mn kb (ConcN.upd L nG (some ⟨C,St,[C.o.bo],H,cs⟩)) w' k∧w'.heap[k]?=w.heap[k]?):ES S wr kb b (C.o::l) (ConcN.upd L nG (some ⟨C,St,[C.o.bo],H,cs⟩)) w':=by
 refine h.keep (fun k hs o ho=>?_) hk
 rcases List.mem_cons.1 ho with rfl|ho
 ·right
  intro e
  have:=((hk _ (h.mn k hs) (h.nu k hs)).1.own nG _ (ConcN.upd_same ..)).1
  exact this (by rw [e];exact List.mem_singleton.2 rfl)
 ·exact .inl ho
end
theorem int_one {x:Value}(h:∃ z,x=.int .i64 z):x.oneCell'=true:=by obtain ⟨z,rfl⟩:=h;rfl
theorem getD_int {xs:List Value}{n:Nat}(hl:xs.length=n)(h:∀ x∈xs,∃ z,x=.int .i64 z):∀ j,j<n→∃ z,xs.getD j (.bool false)=.int .i64 z:=fun j hj=>by
 rw [List.getD_eq_getElem?_getD,List.getElem?_eq_getElem (by omega)]
 exact h _ (List.getElem_mem _)
theorem own_cell {w:World}{B e g n cap p:Nat}{dn:List Value}{x:Value}(h:w.ownsRow B e 1 (.slice (some ⟨g,0,none⟩) n cap) n dn)(hx:dn[p]?=some x):w.cell? ⟨g,p,none⟩=some x:=by
 obtain ⟨h1,⟨h2,_⟩|⟨g',cap',cur,h2,h3,h4,h5,h6,h7,h8⟩⟩:=h
 ·cases h2
 ·obtain ⟨e1,_,_⟩:=Value.slice.inj h2
  obtain rfl:g=g':=by have:=Option.some.inj e1;exact congrArg Addr.block this
  have hp:p<n*1:=by have:=(List.getElem?_eq_some_iff.1 hx).1;omega
  simp only [World.cell?,h4]
  rw [← h8,List.getElem?_take_of_lt hp] at hx
  simpa using hx
set_option maxRecDepth 100000 in
theorem cn_loop3 {Final:Machine→Trace→Prop}{w0 ws wr:World}{S:Nat→Prop}{kb:Kb}{b:Lb}{n i cB gd cap e:Nat}{K:Ker}{V:Nat→Value}{N:Nat→Nat}{Xs:Nat→List Value}{dn:List Value}{vb vs:Value}(hN:∀ p,p<n→N p≤4398046511104)(lcB:cB<w0.heap.size)(hc:w0.cell? ⟨cB,1,none⟩=some (.int .i64 n))(hD:DN ws wr N Xs n (.slice (some ⟨gd,0,none⟩) n cap) dn)(hSd:S gd)(hSr:∀ q,q<n→∀ d,dn[q]?=some (.slice (some ⟨d,0,none⟩) (N q) (N q))→S d)(k:List Item)(cs:List Frame)
  (hdone:∀ l L Inb nG w U a,CI w0 kb b n i l K L (e+1) Inb nG w U V N Xs→ES S wr kb b l L w→(∀ q,q<n→∃ o,U q=some o)→Lvs 211 [(2,.pointer (some ⟨cB,0,none⟩)),(5,.bool true),(6,.pointer (some ⟨kb.bk,0,none⟩)),(8,.pointer (some ⟨b.bl,0,none⟩)),(11,vb),(12,.slice (some ⟨gd,0,none⟩) n cap),(17,vs)] a→X Tryd.prog Final l Inb nG 0 (G ((base 6).at a k) cs) w) :
  ∀ m p,m+p=n→∀ l L Inb nG w U a,CI w0 kb b n i l K L (e+1) Inb nG w U V N Xs→ES S wr kb b l L w→(∀ q,p≤q→U q=none)→(∀ q,q<p→∃ o,U q=some o)→Lvs 211 [(2,.pointer (some ⟨cB,0,none⟩)),(5,.bool true),(6,.pointer (some ⟨kb.bk,0,none⟩)),(8,.pointer (some ⟨b.bl,0,none⟩)),(11,vb),(12,.slice (some ⟨gd,0,none⟩) n cap),(17,vs),(18,.int .i64 p)] a →
   X Tryd.prog Final l Inb nG 0 (G ((base 6).at a (.code cnLoop3::.inLoop cnLoop3::.inBlock 5::k)) cs) w:=by
 intro m
 induction m with
 | zero =>
  intro p hp l L Inb nG w U a ci es hno hso hA
  obtain rfl:p=n:=by omega
  have h6:p≤6:=ci.lm.m.is.small
  have cw:w.cell? ⟨cB,1,none⟩=some (.int .i64 p):=(World.cell?_of_block (w:=w0) (a:=⟨cB,1,none⟩) (ci.old cB lcB).2).trans hc
  refine x_liv ?_
  unfold cnLoop3
  refine Br.liv_seq ?_
  refine Br.liv_seq ?_
  refine cn_31f cw (by omega) (by omega) hA _ cs (fun a hA=>?_)
  refine Br.liv_cond (t:=false) (hA.get rfl) ?_
  refine Br.liv_exit (k':=k) (by rfl) ?_
  exact fun d=>.stop (hdone l L Inb nG _ U a (ci.grown (grown_at w d)) (es.grown (grown_at w d)) hso (hA.sub (fun p hp=>by
   simp only [List.mem_cons,List.not_mem_nil,or_false] at hp
   rcases hp with rfl|rfl|rfl|rfl|rfl|rfl|rfl<;>rfl)))
 | succ m ih =>
  intro p hp l L Inb nG w U a ci es hno hso hA
  have hlt:p<n:=by omega
  have h6:n≤6:=ci.lm.m.is.small
  have cw:w.cell? ⟨cB,1,none⟩=some (.int .i64 n):=(World.cell?_of_block (w:=w0) (a:=⟨cB,1,none⟩) (ci.old cB lcB).2).trans hc
  have hUp:U p=none:=hno p (Nat.le_refl _)
  refine x_liv ?_
  have enter:∀ {g:Goroutine},g=G ((base 6).at a (.code (.seq (.seq (rg 31) (.cond (.tmp 120) .skip (.exit 5))) (.seq (.block 6 (.seq (rg 33) (.seq (rg 34) (.seq (rg 35) (.seq (rg 36) (rg 37)))))) (rg 32)))::.inLoop cnLoop3::.inBlock 5::k)) cs→Liv Tryd.prog true true (sfO l) (X Tryd.prog Final l Inb nG 0) g w→Liv Tryd.prog true true (sfO l) (X Tryd.prog Final l Inb nG 0) (G ((base 6).at a (.code cnLoop3::.inLoop cnLoop3::.inBlock 5::k)) cs) w:=fun e h=>by
   subst e;exact h
  refine enter rfl ?_
  clear enter
  refine Br.liv_seq ?_
  refine Br.liv_seq ?_
  refine cn_31t cw hlt (by omega) hA _ cs (fun a hA=>?_)
  refine Br.liv_cond (t:=true) (hA.get rfl) ?_
  refine Br.liv_skip ?_
  refine Br.liv_seq ?_
  refine Br.liv_block ?_
  refine Br.liv_seq ?_
  refine cn_33 (p:=p) (hA.sub (fun p hp=>by
   simp only [List.mem_cons,List.not_mem_nil,or_false] at hp
   rcases hp with rfl|rfl|rfl|rfl|rfl|rfl|rfl|rfl<;>rfl)) _ cs (fun a hA d=>?_)
  have ci1:=ci.grown (grown_at w d)
  have es1:=es.grown (grown_at w d)
  generalize w.at d=w1 at ci1 es1 ⊢
  refine main_pick ci1.co ci1.hn ci1.lm hN ci1.u1 p _ cs (fun h=>?_) (fun q hq _ _ w2 hG=>?_) (fun q v hq _ hU=>?_) (fun q v hq _ hU=>?_)
  ·simp [hlt] at h
  ·have ci2:=ci1.grown hG
   have es2:=es1.grown hG
   rw [fin_at (o:=_) rfl]
   refine x_liv ?_
   refine cn_33b (p:=p) (va:=.bool false) (ve:=.int .i64 11) ((hA.put (d:=126) (by decide) _).sub (fun p hp=>by
    simp only [List.mem_cons,List.not_mem_nil,or_false] at hp
    rcases hp with rfl|rfl|rfl|rfl|rfl|rfl|rfl|rfl|rfl<;>rfl)) _ cs (fun a hA=>?_)
   refine Br.liv_seq ?_
   refine cn_34 ci2.co ci2.lm.m hlt (hN p hlt) (fun x hx=>int_one (ci2.ints p hlt x hx)) hA _ cs (fun a w3 hG3 hrow hA=>?_)
   refine Br.liv_seq ?_
   obtain ⟨d0,d1,d2,d3,d4⟩:=hD.row p hlt
   have Sd:=hSr p hlt d0 d1
   have ci3:=ci2.grown hG3
   have es3:=es2.grown hG3
   refine cn_35 ci3.co hlt ((World.cell?_of_block (w:=wr) (a:=⟨gd,p,none⟩) (es3.has gd hSd)).trans (own_cell hD.own d1)) (hN p hlt) hrow (d4.of_block (es3.has d0 Sd)) (getD_int (ci2.lm.m.is.own p hlt).1 (ci2.ints p hlt)) (Br.sfO_zero fun o ho=>by have:=Br.KO.lt ci2.co.env.ko ho;omega) (es3.sf Sd) hA _ cs (fun a w4 hG4 hA=>?_)
   refine Br.liv_seq ?_
   refine cn_36 (p:=p) hA _ cs (fun a hA d=>?_)
   have ci4:=(ci3.grown hG4).grown (grown_at w4 d)
   have es4:=(es3.grown hG4).grown (grown_at w4 d)
   generalize w4.at d=w5 at ci4 es4 ⊢
   refine main_Begin ci4.co ci4.hn ci4.lm ci4.g0 p 2 0 0 _ cs (fun h=>by omega) (fun _ _ h=>by simp [hlt] at h) (fun _ _ q o hq _ hU=>?_) (fun _ _ q hq hqn hU w6 C H Inb' c1 c2 c3 c4 c5 c6 c7 c8 c9=>?_)
   ·obtain rfl:p=q:=by omega
    rw [hUp] at hU;cases hU
   ·obtain rfl:p=q:=by omega
    rw [fin_at (o:=_) rfl]
    refine x_liv ?_
    refine cn_36b (p:=p) (vi:=.int .i64 0) ((hA.put (d:=144) (by decide) _).sub (fun p hp=>by
    simp only [List.mem_cons,List.not_mem_nil,or_false] at hp
    rcases hp with rfl|rfl|rfl|rfl|rfl|rfl|rfl|rfl|rfl|rfl|rfl|rfl|rfl|rfl<;>rfl)) _ cs (fun a hA=>?_)
    refine cn_37 (p:=p) (hA.sub (fun p hp=>by
    simp only [List.mem_cons,List.not_mem_nil,or_false] at hp
    rcases hp with rfl|rfl|rfl|rfl|rfl|rfl|rfl|rfl|rfl|rfl|rfl|rfl|rfl<;>rfl)) _ cs (fun a hA=>?_)
    refine Br.liv_inBlock ?_
    refine cn_32 (p:=p) (by omega) hA _ cs (fun a hA=>?_)
    refine Br.liv_inLoop ?_
    refine fun d=>.stop (ih (p+1) (by omega) _ _ _ _ _ _ a ((ci4.begun hlt hUp c6 c7 c8 c9).grown (grown_at w6 d)) ((es4.begun c8).grown (grown_at w6 d)) (fun q hq=>?_) (fun q hq=>?_) hA)
    ·unfold setO
     rw [if_neg (by omega)]
     exact hno q (by omega)
    ·unfold setO
     split
     ·exact ⟨_,rfl⟩
     ·exact hso q (by omega)
  ·obtain rfl:p=q:=by omega
   rw [hUp] at hU;cases hU
  ·obtain rfl:p=q:=by omega
   rw [hUp] at hU;cases hU
set_option maxRecDepth 100000 in
theorem cn_last {Final:Machine→Trace→Prop}{w0:World}{kb:Kb}{b:Lb}{n i r gd cap m0 c0:Nat}{a0:Option Addr}{l:List OpD}{K:Ker}{L:Nat→Option Lv}{Inb:Nat→Option Seat}{nG:Nat}{w:World}{U:Nat→Option OpD}{V:Nat→Value}{N:Nat→Nat}{Xs:Nat→List Value}(ci:CI w0 kb b n i l K L r Inb nG w U V N Xs)(hn0:0<n)(hN:N 0≤4398046511104)(ov:Bool)(hgd:Mn kb L w gd)(gne:gd≠b.bu)(hd:w.cell? ⟨gd,0,none⟩=some (.slice a0 m0 c0))(hov:ov=true→N 0=m0+1)(k:List Item)(cs:List Frame)
  (hdone:∀ l L Inb nG w a,Co kb l K L r Inb nG w→(∀ g,L g=none)→(∀ k,k<w0.heap.size→w.heap[k]?=w0.heap[k]?)→Lvs 211 [(4,.bool true)] a→X Tryd.prog Final l Inb nG 0 (G ((base 6).at a (.code .ret::k)) cs) w)
  {a:Act}(hA:Lvs 211 [(5,.bool true),(8,.pointer (some ⟨b.bl,0,none⟩)),(12,.slice (some ⟨gd,0,none⟩) n cap),(17,.bool true),(26,.bool true),(27,.bool ov),(28,.int .i64 0)] a) :
  X Tryd.prog Final l Inb nG 0 (G ((base 6).at a (.code (.seq (rg 41) (.seq (rg 42) (.seq (rg 43) .ret)))::k)) cs) w:=by
 refine x_liv ?_
 refine Br.liv_seq ?_
 refine cn_41 ci.co ci.lm.m hn0 rfl hN (fun x hx=>int_one (ci.ints 0 hn0 x hx)) hA _ cs (fun a w1 hG1 hrow hA=>?_)
 refine Br.liv_seq ?_
 refine cn_42 (hA.sub (fun p hp=>by
  simp only [List.mem_cons,List.not_mem_nil,or_false] at hp
  rcases hp with rfl|rfl|rfl|rfl|rfl|rfl|rfl|rfl|rfl<;>rfl)) _ cs (fun a hA d=>?_)
 have ci2:=(ci.grown hG1).grown (grown_at w1 d)
 have g2:Mn kb L (w1.at d) gd:=hgd.grow hG1.size
 have hd2:(w1.at d).cell? ⟨gd,0,none⟩=some (.slice a0 m0 c0):=(World.cell?_of_block (w:=w) (a:=⟨gd,0,none⟩) (hG1.old gd hgd.lt)).trans hd
 generalize w1.at d=w2 at ci2 g2 hd2 ⊢
 refine main_Cancel ci2.co ci2.lm _ cs (fun L' Inb' w3 co3 lm3 hk hL=>?_)
 obtain ⟨ci3,hL0⟩:=ci2.cancelled co3 lm3 hk hL
 have hd3:w3.cell? ⟨gd,0,none⟩=some (.slice a0 m0 c0):=(World.cell?_of_block (w:=w2) (a:=⟨gd,0,none⟩) (hk gd g2 gne).2).trans hd2
 rw [fin_at (o:=_) rfl]
 refine x_liv ?_
 refine Br.liv_region_end ?_
 refine Br.liv_seq ?_
 have hA':=(hA.put (d:=181) (by decide) (.tuple #[])).sub (env':=[(5,.bool true),(12,.slice (some ⟨gd,0,none⟩) n cap),(17,.bool true),(26,.bool true),(27,.bool ov),(28,.int .i64 0),(29,.slice (some ⟨w.heap.size,0,none⟩) (N 0) (N 0)),(30,.int .i64 0)]) (fun p hp=>by
  simp only [List.mem_cons,List.not_mem_nil,or_false] at hp
  rcases hp with rfl|rfl|rfl|rfl|rfl|rfl|rfl|rfl<;>rfl)
 cases ov with
 | false=>exact cn_43f (m0:=0) (c0:=0) (a0:=none) hA' _ cs (fun a hA d=>.stop (hdone _ _ _ _ _ a (co3.at d) hL0 (fun k hk=>(ci3.old k hk).2) hA))
 | true=>exact cn_43t hn0 hd3 (hov rfl) (by have:=hov rfl;omega) hA' _ cs (fun a hA d=>.stop (hdone _ _ _ _ _ a (co3.at d) hL0 (fun k hk=>(ci3.old k hk).2) hA))
set_option maxRecDepth 100000 in
theorem cn_end {Final:Machine→Trace→Prop}{w0 wr:World}{S:Nat→Prop}{kb:Kb}{b:Lb}{n i r cB gd cap c0 b1 gF gS gD:Nat}{a0:Option Addr}{l:List OpD}{K:Ker}{L:Nat→Option Lv}{Inb:Nat→Option Seat}{nG:Nat}{w:World}{U:Nat→Option OpD}{V:Nat→Value}{N:Nat→Nat}{Xs:Nat→List Value}(ci:CI w0 kb b n i l K L (r+1) Inb nG w U V N Xs)(es:ES S wr kb b l L w)(hn0:0<n)(hU0:∃ o,U 0=some o)(hN:∀ p,p<n→N p<4398046511104)
  (hX1:wr.heap[b1]?=some (.cells (stRow K gF gS gD) 45 (0,0)))(hSn:Snap wr gF gS gD K)(s1:S b1)(sF:S gF)(sS:S gS)(sD:S gD)(sd:S gd)(hd:wr.cell? ⟨gd,0,none⟩=some (.slice a0 (N 0) c0))(nbn:gd≠b.bn)(nown:(V 0).ownBlock≠some gd)(k:List Item)(cs:List Frame)
  (hdone:∀ K l L r Inb nG w a,Co kb l K L r Inb nG w→(∀ g,L g=none)→(∀ k,k<w0.heap.size→w.heap[k]?=w0.heap[k]?)→Lvs 211 [(4,.bool true)] a→X Tryd.prog Final l Inb nG 0 (G ((base 6).at a (.code .ret::k)) cs) w)
  {a:Act}(hA:Lvs 211 [(2,.pointer (some ⟨cB,0,none⟩)),(5,.bool true),(6,.pointer (some ⟨kb.bk,0,none⟩)),(8,.pointer (some ⟨b.bl,0,none⟩)),(11,.pointer (some ⟨b1,0,none⟩)),(12,.slice (some ⟨gd,0,none⟩) n cap),(17,.bool true)] a) :
  X Tryd.prog Final l Inb nG 0 (G ((base 6).at a (.code cnEnd::k)) cs) w:=by
 refine x_liv ?_
 unfold cnEnd
 refine Br.liv_seq ?_
 refine cn_38 ci.co (hA.sub (fun p hp=>by
  simp only [List.mem_cons,List.not_mem_nil,or_false] at hp
  rcases hp with rfl|rfl|rfl|rfl|rfl|rfl<;>rfl)) _ cs (fun a w1 kF kS kD bx hG1 hS1 g1 g2 g3 g4 hX2 hA=>?_)
 have ci1:=ci.grown hG1
 have es1:=es.grown hG1
 have zn:∀ j,w.heap.size≤j→sfO l j=0:=fun j hj=>Br.sfO_zero fun o ho=>by have:=Br.KO.lt ci.co.env.ko ho;omega
 have R:=ci.co.env.rep
 refine Br.liv_seq ?_
 refine cn_39 ci1.co ⟨R.hF,by have:=R.hS;omega,by have:=R.hD;omega⟩ ((es1.has b1 s1).trans hX1) hX2 (hSn.same fun j hj=>by rcases hj with rfl|rfl|rfl;exact es1.has _ sF;exact es1.has _ sS;exact es1.has _ sD) hS1 ⟨es1.sf sF,es1.sf sS,es1.sf sD⟩ ⟨zn _ g1,zn _ g2,zn _ g3⟩ hA _ cs (fun a w2 hG2 hA=>?_)
 refine Br.liv_seq ?_
 refine cn_40 (hA.sub (fun p hp=>by
  simp only [List.mem_cons,List.not_mem_nil,or_false] at hp
  rcases hp with rfl|rfl|rfl|rfl|rfl<;>rfl)) _ cs (fun a hA d=>?_)
 have ci2:=(ci1.grown hG2).grown (grown_at w2 d)
 have es2:=(es1.grown hG2).grown (grown_at w2 d)
 generalize w2.at d=w3 at ci2 es2 ⊢
 have hd3:w3.cell? ⟨gd,0,none⟩=some (.slice a0 (N 0) c0):=(World.cell?_of_block (w:=wr) (a:=⟨gd,0,none⟩) (es2.has gd sd)).trans hd
 have fwd:∀ (ov:Bool) (a:Act),Lvs 211 [(5,.bool true),(8,.pointer (some ⟨b.bl,0,none⟩)),(12,.slice (some ⟨gd,0,none⟩) n cap),(17,.bool true),(26,.bool true)] a→∀ {K':Ker} {L':Nat→Option Lv} {Inb':Nat→Option Seat} {w4:World} {U':Nat→Option OpD} {V':Nat→Value} {N':Nat→Nat} {Xs':Nat→List Value} {i':Nat},
   CI w0 kb b n i' l K' L' r Inb' nG w4 U' V' N' Xs'→N' 0≤4398046511104→Mn kb L' w4 gd→w4.cell? ⟨gd,0,none⟩=some (.slice a0 (N 0) c0)→(ov=true→N' 0=N 0+1) →
   X Tryd.prog Final l Inb' nG 0 (G (((base 6).at a (.inRegion (cnOps 40) [1,2,3,4,5,6] :: .code (.seq (rg 41) (.seq (rg 42) (.seq (rg 43) .ret)))::k)).finish (.tuple #[.bool ov,.int .i64 0])) cs) w4:=fun ov a hA K' L' Inb' w4 U' V' N' Xs' i' ci4 hN4 hM hd4 hov=>by
  rw [fin_at (o:=_) rfl]
  refine x_liv ?_
  refine cn_40b (va:=.bool ov) (ve:=.int .i64 0) ((hA.put (d:=172) (by decide) _).sub (fun p hp=>by
   simp only [List.mem_cons,List.not_mem_nil,or_false] at hp
   rcases hp with rfl|rfl|rfl|rfl|rfl|rfl<;>rfl)) _ cs (fun a hA=>?_)
  exact fun d=>.stop (cn_last (ci4.grown (grown_at w4 d)) hn0 hN4 ov (hM.grow (Nat.le_refl _)) (es2.nu gd sd) hd4 hov k cs (fun l L Inb nG w a co hL hO hA=>hdone _ l L _ Inb nG w a co hL hO hA) hA)
 refine main_pick ci2.co ci2.hn ci2.lm (fun p hp=>Nat.le_of_lt (hN p hp)) ci2.u1 ((0:Nat):Int) _ cs (fun h=>?_) (fun q hq _ hU=>?_) (fun q v hq hqn hU hsl hv w4 v' Inb' hC _ _ co4 kp lm4=>?_) (fun q v hq hqn hU hsl hv w4 Inb' val err g2 cap2 _ co4 hk lm4=>?_)
 ·simp [hn0] at h
 ·obtain rfl:q=0:=by omega
  obtain ⟨o,ho⟩:=hU0
  rw [ho] at hU;cases hU
 ·obtain rfl:q=0:=by omega
  exact fwd false a hA (ci2.goes hv hC co4 (ci2.co.nS co4 (kp _ ci2.co.bkMn).2) kp lm4) (Nat.le_of_lt (hN 0 hn0)) (kp gd (es2.mn gd sd)).1 ((World.cell?_of_block (w:=w3) (a:=⟨gd,0,none⟩) (kp gd (es2.mn gd sd)).2).trans hd3) (fun h=>by cases h)
 ·obtain rfl:q=0:=by omega
  have hnx:¬ LibEx b V 0 gd:=fun h=>by
   rcases h with h|h|h
   ·exact es2.nu gd sd h
   ·exact nbn h
   ·exact nown h
  have c4:=ci2.over hqn hU hv co4 (ci2.co.nS co4 (hk _ ci2.co.bkMn (fun h=>by
   rcases h with h|h|h
   ·exact ci2.lm.m.mbu.bk h.symm
   ·exact ci2.lm.m.mbn.bk h.symm
   ·exact (ci2.lm.m.mls 0 hqn _ h).bk rfl)).2) hk lm4
  exact fwd true a hA c4 (by have:=hN 0 hn0;simp [setV];omega) (hk gd (es2.mn gd sd) hnx).1 ((World.cell?_of_block (w:=w3) (a:=⟨gd,0,none⟩) (hk gd (es2.mn gd sd) hnx).2).trans hd3) (fun _=>by simp [setV])
theorem DN.of {ws w w':World}{N:Nat→Nat}{Xs:Nat→List Value}{p:Nat}{V:Value}{dn:List Value}(h:DN ws w N Xs p V dn)(hk:∀ k,ws.heap.size≤k→k<w.heap.size→w'.heap[k]?=w.heap[k]?):DN ws w' N Xs p V dn :=
 ⟨owns_same h.own (fun g hg=>hk g (owns_lt h.own hg).1 (owns_lt h.own hg).2),fun q hq=>by
  obtain ⟨d,d1,d2,d3,d4⟩:=h.row q hq
  exact ⟨d,d1,d2,d3,d4.of_block (hk d d2 (row_lt d4))⟩⟩
set_option maxRecDepth 100000 in
theorem cn_mid {Final:Machine→Trace→Prop}{w0:World}{kb:Kb}{b:Lb}{n len e cB:Nat}{scr:Value}{l:List OpD}{K:Ker}{L:Nat→Option Lv}{Inb:Nat→Option Seat}{nG:Nat}{w:World}{U:Nat→Option OpD}{V:Nat→Value}{N:Nat→Nat}{Xs:Nat→List Value}(ci:CI w0 kb b n len l K L (e+1) Inb nG w U V N Xs)(hn0:0<n)(hlen:len<4398046511104)(lcB:cB<w0.heap.size)(hc:w0.cell? ⟨cB,1,none⟩=some (.int .i64 n))(k:List Item)(cs:List Frame)
  (hdone:∀ K l L r Inb nG w a,Co kb l K L r Inb nG w→(∀ g,L g=none)→(∀ k,k<w0.heap.size→w.heap[k]?=w0.heap[k]?)→Lvs 211 [(4,.bool true)] a→X Tryd.prog Final l Inb nG 0 (G ((base 6).at a (.code .ret::k)) cs) w)
  {a:Act}(hA:Lvs 211 [(1,scr),(2,.pointer (some ⟨cB,0,none⟩)),(5,.bool true),(6,.pointer (some ⟨kb.bk,0,none⟩)),(8,.pointer (some ⟨b.bl,0,none⟩)),(9,.int .i64 len)] a) :
  X Tryd.prog Final l Inb nG 0 (G ((base 6).at a (.code cnMid::k)) cs) w:=by
 have hN:∀ p,p<n→N p<4398046511104:=fun p hp=>by have:=ci.nb p hp;omega
 refine x_liv ?_
 unfold cnMid
 refine Br.liv_seq ?_
 refine cn_19 ci.co (hA.sub (fun p hp=>by
  simp only [List.mem_cons,List.not_mem_nil,or_false] at hp
  rcases hp with rfl|rfl|rfl|rfl<;>rfl)) _ cs (fun a ws gF gS gD b1 hGs hSn gg1 gg2 gg3 gg4 hX1 hA=>?_)
 have cis:=ci.grown hGs
 refine Br.liv_seq ?_
 refine cn_20 hA _ cs (fun a hA=>?_)
 refine Br.liv_seq ?_
 refine Br.liv_seq ?_
 refine cn_21 hA _ cs (fun a hA=>?_)
 refine Br.liv_block ?_
 refine Br.liv_loop ?_
 have cws:ws.cell? ⟨cB,1,none⟩=some (.int .i64 n):=(World.cell?_of_block (w:=w0) (a:=⟨cB,1,none⟩) (cis.old cB lcB).2).trans hc
 refine cn_loop2 cis.co cis.lm.m (fun p hp=>Nat.le_of_lt (hN p hp)) (fun p hp x hx=>int_one (cis.ints p hp x hx)) cws _ cs (fun w2 a V2 dn hG2 hD hA=>?_) n 0 (by omega) ws a (.slice none 0 0) [] (Grown.refl trivial) ⟨⟨rfl,.inl ⟨rfl,rfl⟩⟩,fun q hq=>by omega⟩ hA
 obtain ⟨gd,cap,rfl⟩:∃ gd cap,V2=.slice (some ⟨gd,0,none⟩) n cap:=by
  obtain ⟨_,⟨_,h⟩|⟨g,cap,cur,h,_⟩⟩:=hD.own
  ·omega
  ·exact ⟨g,cap,h⟩
 have lgd:=owns_lt hD.own (g:=gd) rfl
 refine Br.liv_seq ?_
 refine cn_27 hA _ cs (fun a hA d=>?_)
 have ci2:=(cis.grown hG2).grown (grown_at w2 d)
 have hD2:DN ws (w2.at d) N Xs n (.slice (some ⟨gd,0,none⟩) n cap) dn:=hD.of fun _ _ _=>rfl
 have hG2':Grown ws (w2.at d):=hG2.trans (grown_at w2 d)
 have lgd':gd<(w2.at d).heap.size:=lgd.2
 generalize w2.at d=w3 at ci2 hD2 hG2' lgd' ⊢
 have lbu:b.bu<w.heap.size:=ci.lm.m.mbu.mn.lt
 have lbn:b.bn<w.heap.size:=ci.lm.m.mbn.mn.lt
 have s1:=hGs.size
 have s2:=hG2'.size
 refine main_Cancel ci2.co ci2.lm _ cs (fun L' Inb' w4 co4 lm4 hk hL=>?_)
 obtain ⟨ci4,hL0⟩:=ci2.cancelled co4 lm4 hk hL
 have keep4:∀ j,w.heap.size≤j→j<w3.heap.size→j<w4.heap.size∧w4.heap[j]?=w3.heap[j]?:=fun j h1 h2=>by
  have:=hk j (ci.co.new (w':=w3) h1 h2).mn (by omega)
  exact ⟨this.1.lt,this.2⟩
 rw [fin_at (o:=_) rfl]
 refine x_liv ?_
 refine Br.liv_region_end ?_
 refine Br.liv_seq ?_
 have hA4:=(hA.put (d:=111) (by decide) (.tuple #[])).sub (env':=[(2,.pointer (some ⟨cB,0,none⟩)),(5,.bool true),(6,.pointer (some ⟨kb.bk,0,none⟩)),(8,.pointer (some ⟨b.bl,0,none⟩)),(11,.pointer (some ⟨b1,0,none⟩)),(12,.slice (some ⟨gd,0,none⟩) n cap)]) (fun p hp=>by
  simp only [List.mem_cons,List.not_mem_nil,or_false] at hp
  rcases hp with rfl|rfl|rfl|rfl|rfl|rfl<;>rfl)
 refine cn_28 ci4.co hA4 _ cs (fun a w5 kF kS kD b2 hG5 hS5 q1 q2 q3 q4 hX5 hA=>?_)
 have ci5:=ci4.grown hG5
 have keep5:∀ j,w.heap.size≤j→j<w3.heap.size→w5.heap[j]?=w3.heap[j]?:=fun j h1 h2=>(hG5.old j (keep4 j h1 h2).1).trans (keep4 j h1 h2).2
 have lb1:b1<ws.heap.size:=(Array.getElem?_eq_some_iff.1 hX1).1
 have lF:gF<ws.heap.size:=row_lt hSn.f
 have lS:gS<ws.heap.size:=row_lt hSn.s
 have lD:gD<ws.heap.size:=row_lt hSn.d
 have up:∀ j,w.heap.size≤j→j<ws.heap.size→w5.heap[j]?=ws.heap[j]?:=fun j h1 h2=>(keep5 j h1 (by omega)).trans (hG2'.old j h2)
 have hX1':w5.heap[b1]?=some (.cells (stRow K gF gS gD) 45 (0,0)):=(up b1 gg4 lb1).trans hX1
 have hSn':Snap w5 gF gS gD K:=hSn.same fun j hj=>by
  rcases hj with rfl|rfl|rfl
  ·exact up _ gg1 lF
  ·exact up _ gg2 lS
  ·exact up _ gg3 lD
 have zn:∀ j,w.heap.size≤j→sfO l j=0:=fun j hj=>Br.sfO_zero fun o ho=>by have:=Br.KO.lt ci.co.env.ko ho;omega
 have R:=ci.co.env.rep
 have sz34:w3.heap.size≤w4.heap.size:=by
  rcases Nat.lt_or_ge w.heap.size w3.heap.size with h|h
  ·have:=(keep4 (w3.heap.size - 1) (by omega) (by omega)).1;omega
  ·have:w.heap.size≤ws.heap.size:=hGs.size
   have:=gg4;omega
 refine Br.liv_seq ?_
 refine cn_29 ci5.co ⟨R.hF,by have:=R.hS;omega,by have:=R.hD;omega⟩ hX1' hX5 hSn' hS5 ⟨zn _ gg1,zn _ gg2,zn _ gg3⟩ ⟨zn _ (by omega),zn _ (by omega),zn _ (by omega)⟩ hA _ cs (fun a w6 hG6 hA=>?_)
 have ci6:=ci5.grown hG6
 have s5:=hG5.size
 have s6:=hG6.size
 have keep6:∀ j,w.heap.size≤j→j<w3.heap.size→w6.heap[j]?=w3.heap[j]?:=fun j h1 h2=>(hG6.old j (by omega)).trans (keep5 j h1 h2)
 have hD6:DN ws w6 N Xs n (.slice (some ⟨gd,0,none⟩) n cap) dn:=hD2.of fun j h1 h2=>keep6 j (by omega) h2
 have es6:ES (fun j=>w.heap.size≤j∧j<w6.heap.size) w6 kb b l L' w6:=by
  have lf:kb.bf<w.heap.size:=R.lf
  have ls:kb.bs<w.heap.size:=R.ls
  have ld:kb.bd<w.heap.size:=R.ld
  exact ⟨fun j hj=>⟨hj.2,by have h:=hj.1;intro e;omega,by have h:=hj.1;intro e;omega,by have h:=hj.1;intro e;omega,fun g v hv=>by rw [hL0 g] at hv;cases hv⟩,fun j hj o ho=>by have:=Br.KO.lt ci.co.env.ko ho;have:=hj.1;omega,fun j hj=>by have:=hj.1;omega,fun _ _=>rfl⟩
 refine Br.liv_seq ?_
 refine Br.liv_seq ?_
 refine cn_30 (hA.sub (fun p hp=>by
  simp only [List.mem_cons,List.not_mem_nil,or_false] at hp
  rcases hp with rfl|rfl|rfl|rfl|rfl|rfl|rfl<;>rfl)) _ cs (fun a hA=>?_)
 refine Br.liv_block ?_
 refine Br.liv_loop ?_
 refine fun d=>.stop (cn_loop3 (w0:=w0) (ws:=ws) (wr:=w6) (S:=fun j=>w.heap.size≤j∧j<w6.heap.size) (fun p hp=>Nat.le_of_lt (hN p hp)) lcB hc hD6 ⟨by omega,by omega⟩ (fun q hq dd hdd=>?_) _ cs (fun l' L2 Inb2 nG2 w7 U2 a ci7 es7 hU7 hA=>?_) n 0 (by omega) l L' Inb' nG _ (fun _=>none) a (ci6.grown (grown_at w6 d)) (es6.grown (grown_at w6 d)) (fun _ _=>rfl) (fun q hq=>by omega) hA)
 ·obtain ⟨d',h1,h2,h3,h4⟩:=hD6.row q hq
  rw [h1] at hdd
  obtain ⟨e1,_,_⟩:=Value.slice.inj (Option.some.inj hdd)
  obtain rfl:d'=dd:=congrArg Addr.block (Option.some.inj e1)
  exact ⟨by omega,row_lt h4⟩
 ·obtain ⟨d',h1,h2,h3,h4⟩:=hD6.row 0 hn0
  exact cn_end ci7 es7 hn0 (hU7 0 hn0) hN ((hG6.old b1 (by omega)).trans hX1') (hSn'.same fun j hj=>hG6.old j (by rcases hj with rfl|rfl|rfl<;>omega)) ⟨gg4,by omega⟩ ⟨gg1,by omega⟩ ⟨gg2,by omega⟩ ⟨gg3,by omega⟩ ⟨by omega,by omega⟩ (own_cell hD6.own h1) (by omega) (fun h=>by have:=(owns_lt (ci.lm.m.is.own 0 hn0) h).2;omega) k cs hdone hA
theorem stepG_home {P:Program}{fn:Func}{b:Frame}{a:Act}{todo:List Item}{v:Value}{w:World}(hn:b.kind=.normal)(hd:a.defers=[])(hf:P.funcs[b.fn]?=some fn)(hi:P.inits.idxOf? b.fn=none)(hr:ResultsC P fn a.tmps v) :
  stepG P true (G { b.at a todo with mode:=.returning } []) w=.ended (.done v) w #[]:=by
 simp [G,stepG,unwind,doReturn,Frame.at,hn,hd,hf,hi,(hr w).1,(hr w).2,seen,GStep.after]
theorem cn_enter (v0 v1:Value):∃ a,Frame.enter Tryd.prog 6 #[v0,v1] .normal=(base 6).at a [.code cnBody]∧Lvs 211 [(0,v0),(1,v1)] a:=by
 refine ⟨_,enter_at (c:=cnBody) _ Tryd.func6 cn_body,?_⟩
 have e:Tryd.f6.ntmps=211:=by kernel_rfl
 refine ⟨by simp [e],rfl,fun p hp=>?_⟩
 simp only [List.mem_cons,List.not_mem_nil,or_false] at hp
 rcases hp with rfl|rfl<;>simp [e]
set_option maxRecDepth 100000 in
theorem cancels_run (W:World)(T:Tab W)(x y z:Int)(hx:-9223372036854775808≤x∧x<9223372036854775808)(hy:-9223372036854775808≤y∧y<9223372036854775808)(hz:-9223372036854775808≤z∧z<9223372036854775808)(sa:Option Addr)(len cap:Nat)(hlen:len<4398046511104)(hS:Script W sa len) :
  ∃ N last o w' t',runNT Tryd.prog (N+1) (solo (G (Frame.enter Tryd.prog 6 #[.agg #[.int .i64 x,.int .i64 y,.int .i64 z],.slice sa len cap] .normal) []) W) #[]=(.ended o w',t')∧runN Tryd.prog N (solo (G (Frame.enter Tryd.prog 6 #[.agg #[.int .i64 x,.int .i64 y,.int .i64 z],.slice sa len cap] .normal) []) W)=.next last∧step Tryd.prog last=.ended o w' ∧
   Go.Conc.Good Tryd.prog (fun v w'=>(v=.bool true∧W.heap.size≤w'.heap.size∧∀ k,k<W.heap.size→w'.heap[k]?=W.heap[k]?)∧Br.Calm W w') last o w' t':=by
 obtain ⟨a,e,hA⟩:=cn_enter (.agg #[.int .i64 x,.int .i64 y,.int .i64 z]) (.slice sa len cap)
 rw [e]
 refine run_of_x (Post:=fun v w'=>v=.bool true∧W.heap.size≤w'.heap.size∧∀ k,k<W.heap.size→w'.heap[k]?=W.heap[k]?) (x_liv ?_)
 unfold cnBody
 refine cn_a T hA _ [] (fun a w1 hG1 hX1 hA=>?_)
 refine Br.liv_seq ?_
 have s1:=hG1.size
 refine cn_b hX1 hx hy hz hA _ [] (fun a w2 s2 hO2 hX2 hA=>?_)
 have T2:Tab w2:=T.same ((hO2 0 (Nat.lt_of_lt_of_le T.lt s1) (Nat.ne_of_lt T.lt)).trans (hG1.old 0 T.lt))
 have nx:=pickN_lt x (n:=31) (by decide)
 have ny:=pickN_lt y (n:=6) (by decide)
 have nz:=pickN_lt z (n:=5) (by decide)
 refine cn_c T2 (by omega) (by omega) (by omega) (by omega) (by omega) hX2 hA _ [] (fun a w3 kb b hG3 g1 g2 g3 g4 hco hlm hbu hA=>?_)
 have l1:W.heap.size<w1.heap.size:=(Array.getElem?_eq_some_iff.1 hX1).1
 have o2:∀ k,k<W.heap.size→w2.heap[k]?=W.heap[k]?:=fun k hk=>(hO2 k (by omega) (by omega)).trans (hG1.old k hk)
 have hS2:Script w2 sa len:=fun i hi=>by
  obtain ⟨g,o,k,s,c,a0,a1,a2,o0,o1,o2',b',rfl,lg,hr⟩:=hS i hi
  exact ⟨g,o,k,s,c,a0,a1,a2,o0,o1,o2',b',rfl,by omega,fun j v hv=>(World.cell?_of_block (w:=W) (o2 g lg)).trans (hr j v hv)⟩
 have ci:CI w2 kb b (1+pickN y 6) 0 [] (kNew (2+pickN x 31) (1+pickN y 6) (pickN z 5)) (fun _=>none) (len+(0+1)) (fun _=>none) 1 w3 (fun _=>none) (fun _=>.slice none 0 0) (fun _=>0) (fun _=>[]):=by
  refine ⟨hco _,rfl,hlm,by omega,fun p q o hp hq e=>(by cases e),fun g v h=>(by cases h),fun _ _=>Nat.le_refl _,fun p hp x hx=>(by cases hx),fun k hk=>⟨⟨Nat.lt_of_lt_of_le hk hG3.size,by omega,by omega,by omega,fun g v h=>(by cases h)⟩,hG3.old k hk⟩,?_,hbu.1,hbu.2⟩
  have:=hlm.m.is.ne
  omega
 refine Br.liv_block ?_
 refine Br.liv_loop ?_
 refine fun d=>.stop ?_
 refine cn_loop (e:=0+1) (Nat.le_of_lt hlen) hS2 _ [] (fun l K L Inb nG w U V N Xs a ci hA=>?_) len 0 (by omega) _ _ _ _ _ _ _ _ _ _ a (ci.grown (grown_at w3 d)) hA
 refine cn_mid (w0:=w2) ci (by omega) hlen (by omega:W.heap.size<w2.heap.size) (by simp [World.cell?,hX2]) _ [] (fun K l L r Inb nG w a co hL hO hA=>?_) hA
 refine x_liv (Br.liv_ret ?_)
 refine fun d=>.stop ?_
 have h4:a.tmps.getD 4 undef=.bool true:=by
  have:=hA.at (t:=4) rfl
  simp [this]
 have hres:ResultsC Tryd.prog Tryd.f6 a.tmps (.bool true):=by
  rw [← h4];exact resultsC_tmp (by kernel_rfl) _
 refine x_fin (v:=.bool true) rfl (fun d'=>stepG_home rfl hA.defers Tryd.func6 (by kernel_rfl) hres) (fun d'=>⟨rfl,?_,fun k hk=>(hO k (by omega)).trans (o2 k hk)⟩) (fun i hi=>co.none i hi (hL i))
 ·show W.heap.size≤w.heap.size
  have h:=hO W.heap.size (by omega)
  rw [hX2] at h
  have:=(Array.getElem?_eq_some_iff.1 h).1
  omega
end Go.Proofs.YtcgabodkegcpgaaDoor
