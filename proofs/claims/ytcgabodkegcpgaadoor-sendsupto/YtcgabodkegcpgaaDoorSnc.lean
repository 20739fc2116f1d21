/- Sends: its loop: what is put is taken, in its order. -/
import Derived.Test.YtcgabodkegcpgaaDoorSnb
import Derived.Test.YtcgabodkegcpgaaDoorSnp
import Derived.Test.YtcgabodkegcpgaaDoorEnz
set_option linter.unusedVariables false
set_option linter.unusedSimpArgs false
set_option maxHeartbeats 20000000
set_option maxRecDepth 100000
namespace Go.Proofs.YtcgabodkegcpgaaDoor
open Go.Conc Go.RowKit
open Br (X OpD KO SO SP sfO Lk Fit Must DL Liv Clear)
def fin2:Int × Int→Bool→Strat:=fun z _=>fun _=>.done z.1 z.2
def putS:Strat:=((againM 16 1 0 1).bind fun e=>M.pure (0,e)).then false fin2
def takeS:Strat:=(takeM 2 0).then false fin2
def loadS:Strat:=(callM 18 0 2 0).then false fin2
theorem put_strat {C:Ctx}(h1:C.kd=4)(h2:C.A=1)(h3:C.B=1)(p:Nat)(K:Ker):opStrat C p K=putS:=by
 unfold opStrat performM
 rw [h1,h2,h3,if_neg (by decide),if_neg (by decide),if_neg (by decide),if_pos rfl]
 rfl
theorem take_strat {C:Ctx}(h1:C.kd=5)(h2:C.A=2)(h3:C.B=0)(p:Nat)(K:Ker):opStrat C p K=takeS:=by
 unfold opStrat performM
 rw [h1,h2,h3,if_neg (by decide),if_neg (by decide),if_neg (by decide),if_neg (by decide),if_pos rfl]
 rfl
section
variable {K:Ker} {q:List Int} {x y:Int}
theorem put_turn (h:Snd K q x y):(q.length=4→run1 0 putS K=(K,putS))∧(q.length<4→∃ K',run1 0 putS K=(K',fun _=>.done 0 0)∧Snd K' (q ++ [x]) x y):=by
 obtain ⟨h1,h2⟩:=snd_write h
 have hc:run1 0 putS K=_:=run1_call (num:=16) (a:=1) (b:=0) (c:=1) rfl
 refine ⟨fun hq=>?_,fun hq=>?_⟩
 ·rw [hc,h1 hq]
  refine congrArg (Prod.mk K) (funext fun h=>?_)
  rfl
 ·obtain ⟨K',hk,hS⟩:=h2 hq
  refine ⟨K',?_,hS⟩
  rw [hc,hk]
  refine congrArg (Prod.mk K') (funext fun h=>?_)
  rfl
theorem take_turn (h:Snd K q x y):(q=[]→run1 1 takeS K=(K,takeS))∧(∀ z r,q=z::r→∃ K',run1 1 takeS K=(K',loadS)∧Snd K' r x z):=by
 obtain ⟨h1,h2⟩:=snd_read h
 have hc:run1 1 takeS K=_:=run1_call (num:=17) (a:=0) (b:=0) (c:=2) rfl
 refine ⟨fun hq=>?_,fun z r hq=>?_⟩
 ·rw [hc,h1 hq]
  refine congrArg (Prod.mk K) (funext fun h=>?_)
  rfl
 ·obtain ⟨K',hk,hS⟩:=h2 z r hq
  refine ⟨K',?_,hS⟩
  rw [hc,hk]
  refine congrArg (Prod.mk K') (funext fun h=>?_)
  rfl
theorem load_turn (h:Snd K q x y):run1 1 loadS K=(K,fun _=>.done y 0):=by
 have hc:run1 1 loadS K=_:=run1_call (num:=18) (a:=0) (b:=2) (c:=0) rfl
 rw [hc,snd_load h]
 rfl
end
structure Way (ws:List Int) (at_ got:Nat) (b0 b1:Bool) (K:Ker) (U:Nat→Option OpD) (L:Nat→Option Lv):Prop where
 is:∃ a g q x y,Snd K q x y∧g≤a∧a≤ws.length∧q=(ws.drop g).take (a - g) ∧
  ((b0=false∧U 0=none∧at_=a)∨(b0=true∧at_=a+1∧ws[a]?=some x∧∃ v,U 0=some v.C.o∧L v.C.o.gid=some v∧v.C.slot=0∧∀ K,v.S K=putS)) ∧
  ((b1=false∧U 1=none∧got=g)∨(b1=true∧∃ v,U 1=some v.C.o∧L v.C.o.gid=some v∧v.C.slot=1∧((got=g∧∀ K,v.S K=takeS)∨(got+1=g∧ws[got]?=some y∧∀ K,v.S K=loadS))))
structure SI (W:World) (ws:List Int) (kb:Kb) (b:Lb) (bz j at_ got:Nat) (b0 b1:Bool) (l:List OpD) (K:Ker) (L:Nat→Option Lv) (r:Nat) (Inb:Nat→Option Seat) (nG:Nat) (w:World) (U:Nat→Option OpD) (V:Nat→Value) (N:Nat→Nat) (Xs:Nat→List Value):Prop where
 ci:CI W kb b 3 j l K L r Inb nG w U V N Xs
 lz:Loc kb b 3 l L w V bz (.cells #[.bool b0,.bool b1] 77 (0,0))
 zW:W.heap.size≤bz
 way:Way ws at_ got b0 b1 K U L
section
variable {W:World} {ws:List Int} {kb:Kb} {b:Lb} {bz j at_ got:Nat} {b0 b1:Bool} {l:List OpD} {K:Ker} {L:Nat→Option Lv} {r:Nat} {Inb:Nat→Option Seat} {nG:Nat} {w w':World} {U:Nat→Option OpD} {V:Nat→Value} {N:Nat→Nat} {Xs:Nat→List Value} {Final:Machine→Trace→Prop}
theorem SI.grown (h:SI W ws kb b bz j at_ got b0 b1 l K L r Inb nG w U V N Xs)(g:Grown w w'):SI W ws kb b bz j at_ got b0 b1 l K L r Inb nG w' U V N Xs:=⟨h.ci.grown g,h.lz.grown g,h.zW,h.way⟩
theorem other_ne (ci:CI W kb b 3 j l K L r Inb nG w U V N Xs){p q:Nat}(hp:p<3)(hq:q<3)(hne:p≠q){u v:Lv}(h1:U p=some v.C.o)(h2:L v.C.o.gid=some v)(h3:U q=some u.C.o)(h4:L u.C.o.gid=some u):u.C.o.gid≠v.C.o.gid:=fun e=>by
 rw [e,h2] at h4
 obtain rfl:=Option.some.inj h4
 exact hne (ci.u1 p q _ hp hq h1 h3)
theorem take_app {ws:List Int}{g a:Nat}{x:Int}(h1:g≤a)(h2:a≤ws.length)(hx:ws[a]?=some x):(ws.drop g).take (a+1 - g)=(ws.drop g).take (a - g) ++ [x]:=by
 rw [show a+1 - g=(a - g)+1 by omega,List.take_add_one]
 congr 1
 rw [List.getElem?_drop,show g+(a - g)=a by omega,hx]
 rfl
theorem take_cons {ws:List Int}{g a:Nat}{z:Int}{r:List Int}(h1:g≤a)(h2:a≤ws.length)(h:(ws.drop g).take (a - g)=z::r):g<a∧ws[g]?=some z∧r=(ws.drop (g+1)).take (a - (g+1)):=by
 have hlt:g<a:=by
  rcases Nat.lt_or_ge g a with h3|h3
  ·exact h3
  ·rw [show a - g=0 by omega] at h;simp at h
 have hg:g<ws.length:=by omega
 rw [List.drop_eq_getElem_cons hg,show a - g=(a - (g+1))+1 by omega,List.take_succ_cons] at h
 injection h with h3 h4
 exact ⟨hlt,by rw [List.getElem?_eq_getElem hg,h3],h4.symm⟩
theorem done_law (ci:CI W kb b 3 j l K L r Inb nG w U V N Xs)(hj:j≤4000000000000){p m:Nat}(hp:p<3){es:List Value}{Y:List Value}(hN:N p=m+1)(hX:Xs p=Y ++ es)(hY:Y.length=m*5)(he:es.length=5)(fr:Frame)(cs:List Frame)(d:Nat) :
  Must Tryd.prog true (DL true (sfO l)) (fun g w'=>∃ x,g=G (fr.finish x) cs∧Grown w w'∧x=.tuple #[.slice (some ⟨w.heap.size,0,none⟩) (m+1:Nat) (m+1:Nat),.int .i64 0]∧∀ j,j<5→w'.cell? ⟨w.heap.size,m*5+j,none⟩=es[j]?) (G (Frame.enter Tryd.prog 21 #[.pointer (some ⟨b.bl,0,none⟩),.int .i64 p] .normal) (fr::cs)) (w.at d):=by
 refine (must_done ci.co ci.lm.m hp (by have:=ci.nb p hp;omega) (fun x hx=>by obtain ⟨z,rfl⟩:=ci.ints p hp x hx;rfl) fr cs d).mono (fun _ _ _ h=>h) ?_
 rintro g' w' ⟨x,rfl,hG,rfl,hrow⟩
 rw [hN] at hrow ⊢
 rw [hX] at hrow
 refine ⟨_,rfl,hG,rfl,fun j hj=>?_⟩
 rw [hrow.cell (by omega),List.getD_eq_getElem?_getD,List.getElem?_append_right (by omega),hY,Nat.add_sub_cancel_left,List.getElem?_eq_getElem (by omega)]
 rfl
def WordsAt (W:World)(wa:Option Addr)(ws:List Int):Prop:=∀ i x,ws[i]?=some x→∃ g o,wa=some ⟨g,o,none⟩∧g<W.heap.size∧W.cell? ⟨g,o+i,none⟩=some (.int .i64 x)
theorem Lvs.put_ne' {sz:Nat}{env:List (Nat × Value)}{a:Act}(h:Lvs sz env a){d:Nat}(hd:d<sz)(v:Value){env':List (Nat × Value)}(he:((d,v)::env.filter (fun p=>p.1 != d))=env'):Lvs sz env' (a.put (some d) v):=by
 subst he;exact h.put hd v
theorem sn_do0 {wa ya:Option Addr}{wc yl yc i:Nat}(hW:WordsAt W wa ws)(hwl:ws.length<4000000000000)(hi:i<4000000000000)(hj:j<4000000000000)(k:List Item)(cs:List Frame)(hnext:∀ at_ got b0 b1 l K L Inb nG w U V N Xs a,SI W ws kb b bz (j+1) at_ got b0 b1 l K L r Inb nG w U V N Xs→Lvs 219 [(0,.slice wa ws.length wc),(1,.slice ya yl yc),(5,.bool true),(6,.pointer (some ⟨kb.bk,0,none⟩)),(8,.pointer (some ⟨b.bl,0,none⟩)),(15,.int .i64 at_),(16,.int .i64 got),(17,.pointer (some ⟨bz,0,none⟩)),(18,.int .i64 (((i+1:Nat):Int)))] a→X Tryd.prog Final l Inb nG 0 (G ((base 8).at a (.code snLoop::.inLoop snLoop::.inBlock 0::.code snEnd::k)) cs) w)
  (si:SI W ws kb b bz j at_ got true b1 l K L (r+1) Inb nG w U V N Xs){a:Act}(hA:Lvs 219 (snE (.slice wa ws.length wc) (.slice ya yl yc) (.pointer (some ⟨kb.bk,0,none⟩)) (.pointer (some ⟨b.bl,0,none⟩)) at_ got bz i [(19,.int .i64 0)]) a) :
  X Tryd.prog Final l Inb nG 0 (G ((base 8).at a (.code snPick::.inBlock 1::.code (rs 17)::.inLoop snLoop::.inBlock 0::.code snEnd::k)) cs) w:=by
 refine x_liv (sn_pick0 hA _ cs fun a1 hA1 d=>?_)
 have si1:=si.grown (grown_at w d)
 have ci1:=si1.ci
 obtain ⟨a0,g,q,x,y,hS,hga,hal,hq,h0,h1⟩:=si1.way.is
 obtain ⟨o31,ho31,hd31⟩:∃ o,(snOps 31)[2]?=some o∧o.dst=some 147:=⟨_,rfl,rfl⟩
 obtain ⟨hat,hwx,v,hU0,hL0,hsl0,hvS⟩:=(h0.resolve_left (fun h=>by cases h.1)).2
 have who:∀ (v':Lv),U 0=some v'.C.o→L v'.C.o.gid=some v'→v'=v:=fun v' e1 e2=>by
  rw [hU0] at e1
  rw [← Option.some.inj e1,hL0] at e2
  exact (Option.some.inj e2).symm
 refine main_pickN ci1.co ci1.hn ci1.lm (fun q hq=>by have:=ci1.nb q hq;omega) ci1.u1 0 _ _ (fun h=>?_) (fun q' hq' hqn hU=>?_) (fun q' v' hq' hqn hU hsl hv w2 v2 Inb2 hC2 hS2 hcl co2 kp lm2=>?_) (fun q' v' hq' hqn hU hsl hv w2 Inb2 val err g2 cap hdn hg co2 hk lm2=>?_)
 ·exfalso;simp at h
 ·obtain rfl:0=q':=by omega
  rw [hU0] at hU;cases hU
 ·obtain rfl:0=q':=by omega
  obtain rfl:=who v' hU hv
  have ci2:=ci1.goes hv hC2 co2 (ci1.co.nS co2 (kp _ ci1.co.bkMn).2) kp lm2
  have lz2:=si1.lz.goes kp
  have oth:∀ u:Lv,U 1=some u.C.o→L u.C.o.gid=some u→ConcN.upd L v'.C.o.gid (some v2) u.C.o.gid=some u:=fun u e1 e2=>by
   rw [ConcN.upd_ne _ _ (other_ne ci1 (p:=0) (q:=1) (by omega) (by omega) (by omega) hU hv e1 e2)];exact e2
  have me:ConcN.upd L v'.C.o.gid (some v2) v2.C.o.gid=some v2:=by rw [hC2,ConcN.upd_same]
  have hUm:U 0=some v2.C.o:=by rw [hC2];exact hU
  have hslm:v2.C.slot=0:=by rw [hC2];exact hsl0
  unfold Lv.turn at ci2 hS2 hcl
  rw [hsl0] at ci2 hS2 hcl
  rw [fin_at ho31,hd31]
  refine x_liv (sn_more (hA1.put_ne' (d:=147) (by decide) _ rfl) _ cs fun a2 hA2=>Br.liv_inBlock (sn_last (by omega) hA2 k cs fun a3 hA3=>fun d3=>.stop (hnext at_ got _ _ l _ _ Inb2 nG _ U V N Xs a3 ⟨(ci2.more (by omega)).grown (grown_at w2 d3),lz2.grown (grown_at w2 d3),si1.zW,?_⟩ hA3)))
  rw [hvS] at hS2 hcl ⊢
  have hlen:q.length=4:=by
   have:=hS.le
   rcases Nat.lt_or_ge q.length 4 with h|h
   ·obtain ⟨K',e,_⟩:=(put_turn hS).2 h
    obtain ⟨n',a',b',c',hc⟩:=hcl
    rw [e] at hc
    cases hc
   ·omega
  have e:=(put_turn hS).1 hlen
  rw [e] at hS2 ⊢
  refine ⟨a0,g,q,x,y,hS,hga,hal,hq,.inr ⟨rfl,hat,hwx,v2,hUm,me,hslm,fun K=>by rw [hS2]⟩,?_⟩
  rcases h1 with h|⟨e1,u,u1,u2,u3,u4⟩
  ·exact .inl h
  ·exact .inr ⟨e1,u,u1,oth u u1 u2,u3,u4⟩
 ·obtain rfl:0=q':=by omega
  obtain rfl:=who v' hU hv
  unfold Lv.turn at hdn co2
  rw [hsl0] at hdn co2
  rw [hvS] at hdn co2
  have hlen:q.length<4:=by
   have:=hS.le
   rcases Nat.lt_or_ge q.length 4 with h|h
   ·exact h
   ·have e:=(put_turn hS).1 (by omega)
    rw [e] at hdn
    cases hdn
  obtain ⟨K',e,hS'⟩:=(put_turn hS).2 hlen
  rw [e] at hdn co2
  obtain ⟨rfl,rfl⟩:(0:Int)=val∧(0:Int)=err:=by injection hdn with h1 h2;exact ⟨h1,h2⟩
  have nx:¬ LibEx b V 0 kb.bk:=fun h=>by
   rcases h with h|h|h
   ·exact ci1.lm.m.mbu.bk h.symm
   ·exact ci1.lm.m.mbn.bk h.symm
   ·exact (ci1.lm.m.mls 0 (by omega) _ h).bk rfl
  have ci2:=ci1.over (p:=0) (by omega) hU hv co2 (ci1.co.nS co2 (hk _ ci1.co.bkMn nx).2) hk lm2
  have lz2:=si1.lz.over (p:=0) (m:=N 0+1) (cap:=cap) (by omega) hg hk
  have oth:∀ u:Lv,U 1=some u.C.o→L u.C.o.gid=some u→ConcN.upd L v'.C.o.gid none u.C.o.gid=some u:=fun u e1 e2=>by
   rw [ConcN.upd_ne _ _ (other_ne ci1 (p:=0) (q:=1) (by omega) (by omega) (by omega) hU hv e1 e2)];exact e2
  have hlen5:(Xs 0).length=N 0*5:=(ci1.lm.m.is.own 0 (by omega)).1
  have hNp:=ci1.nb 0 (by omega)
  rw [fin_at ho31,hd31]
  refine x_liv (sn_over0 (m:=N 0) (va:=0) (k0:=v'.C.kd) (k1:=v'.C.A) (k2:=v'.C.B) ci2.co.env.fit lz2.is lz2.mw.sf (by omega) (fun w1 hs1 hk1 hB1 fr cs d=>done_law ((ci2.wrote lz2 (by omega) (fun j _ hne=>hk1 j hne) si1.zW).grown (Grown.refl trivial)) (by omega) (p:=0) (m:=N 0) (by omega) (by simp [setV]) (Y:=Xs 0) (es:=ent v'.C.kd v'.C.A v'.C.B 0 0) (by simp [setV]) hlen5 rfl fr cs d) (hA1.put_ne' (d:=147) (by decide) _ rfl) _ cs fun a2 w3 hz3 ho3 hB3 hA2=>Br.liv_inBlock (sn_last (by omega) hA2 k cs fun a3 hA3=>fun d3=>.stop ?_))
  have ci3:=(ci2.wrote lz2 hz3 ho3 si1.zW).grown (grown_at w3 d3)
  have lz3:Loc kb b 3 l _ (w3.at d3) _ bz _:=⟨lz2.mw.grow hz3,hB3,lz2.nl,lz2.nu,lz2.nn,lz2.nv⟩
  refine hnext at_ got false b1 l K' _ Inb2 nG _ _ _ _ _ a3 ⟨ci3,lz3,si1.zW,?_⟩ hA3
  have hlt:a0<ws.length:=(List.getElem?_eq_some_iff.1 hwx).1
  refine ⟨a0+1,g,q ++ [x],x,y,hS',by omega,by omega,by rw [take_app hga hal hwx,hq],.inl ⟨rfl,by simp [setU],hat⟩,?_⟩
  rcases h1 with ⟨e1,e2,e3⟩|⟨e1,u,u1,u2,u3,u4⟩
  ·exact .inl ⟨e1,by simp [setU,e2],e3⟩
  ·exact .inr ⟨e1,u,by simp [setU,u1],oth u u1 u2,u3,u4⟩
theorem sn_do1 {wa ya:Option Addr}{wc yl yc i:Nat}(hW:WordsAt W wa ws)(hwl:ws.length<4000000000000)(hi:i<4000000000000)(hj:j<4000000000000)(k:List Item)(cs:List Frame)(hnext:∀ at_ got b0 b1 l K L Inb nG w U V N Xs a,SI W ws kb b bz (j+1) at_ got b0 b1 l K L r Inb nG w U V N Xs→Lvs 219 [(0,.slice wa ws.length wc),(1,.slice ya yl yc),(5,.bool true),(6,.pointer (some ⟨kb.bk,0,none⟩)),(8,.pointer (some ⟨b.bl,0,none⟩)),(15,.int .i64 at_),(16,.int .i64 got),(17,.pointer (some ⟨bz,0,none⟩)),(18,.int .i64 (((i+1:Nat):Int)))] a→X Tryd.prog Final l Inb nG 0 (G ((base 8).at a (.code snLoop::.inLoop snLoop::.inBlock 0::.code snEnd::k)) cs) w)
  (si:SI W ws kb b bz j at_ got b0 true l K L (r+1) Inb nG w U V N Xs){a:Act}(hA:Lvs 219 (snE (.slice wa ws.length wc) (.slice ya yl yc) (.pointer (some ⟨kb.bk,0,none⟩)) (.pointer (some ⟨b.bl,0,none⟩)) at_ got bz i [(19,.int .i64 1)]) a) :
  X Tryd.prog Final l Inb nG 0 (G ((base 8).at a (.code snPick::.inBlock 1::.code (rs 17)::.inLoop snLoop::.inBlock 0::.code snEnd::k)) cs) w:=by
 refine x_liv (sn_pick1 hA _ cs fun a1 hA1 d=>?_)
 have si1:=si.grown (grown_at w d)
 have ci1:=si1.ci
 obtain ⟨a0,g,q,x,y,hS,hga,hal,hq,h0,h1⟩:=si1.way.is
 obtain ⟨o31,ho31,hd31⟩:∃ o,(snOps 31)[2]?=some o∧o.dst=some 147:=⟨_,rfl,rfl⟩
 obtain ⟨v,hU0,hL0,hsl0,hph⟩:=(h1.resolve_left (fun h=>by cases h.1)).2
 have who:∀ (v':Lv),U 1=some v'.C.o→L v'.C.o.gid=some v'→v'=v:=fun v' e1 e2=>by
  rw [hU0] at e1
  rw [← Option.some.inj e1,hL0] at e2
  exact (Option.some.inj e2).symm
 refine main_pickN ci1.co ci1.hn ci1.lm (fun q hq=>by have:=ci1.nb q hq;omega) ci1.u1 1 _ _ (fun h=>?_) (fun q' hq' hqn hU=>?_) (fun q' v' hq' hqn hU hsl hv w2 v2 Inb2 hC2 hS2 hcl co2 kp lm2=>?_) (fun q' v' hq' hqn hU hsl hv w2 Inb2 val err g2 cap hdn hg co2 hk lm2=>?_)
 ·exfalso;simp at h
 ·obtain rfl:1=q':=by omega
  rw [hU0] at hU;cases hU
 ·obtain rfl:1=q':=by omega
  obtain rfl:=who v' hU hv
  have ci2:=ci1.goes hv hC2 co2 (ci1.co.nS co2 (kp _ ci1.co.bkMn).2) kp lm2
  have lz2:=si1.lz.goes kp
  have oth:∀ u:Lv,U 0=some u.C.o→L u.C.o.gid=some u→ConcN.upd L v'.C.o.gid (some v2) u.C.o.gid=some u:=fun u e1 e2=>by
   rw [ConcN.upd_ne _ _ (other_ne ci1 (p:=1) (q:=0) (by omega) (by omega) (by omega) hU hv e1 e2)];exact e2
  have me:ConcN.upd L v'.C.o.gid (some v2) v2.C.o.gid=some v2:=by rw [hC2,ConcN.upd_same]
  have hUm:U 1=some v2.C.o:=by rw [hC2];exact hU
  have hslm:v2.C.slot=1:=by rw [hC2];exact hsl0
  unfold Lv.turn at ci2 hS2 hcl
  rw [hsl0] at ci2 hS2 hcl
  rw [fin_at ho31,hd31]
  refine x_liv (sn_more (hA1.put_ne' (d:=147) (by decide) _ rfl) _ cs fun a2 hA2=>Br.liv_inBlock (sn_last (by omega) hA2 k cs fun a3 hA3=>fun d3=>.stop (hnext at_ got _ _ l _ _ Inb2 nG _ U V N Xs a3 ⟨(ci2.more (by omega)).grown (grown_at w2 d3),lz2.grown (grown_at w2 d3),si1.zW,?_⟩ hA3)))
  have h0':(b0=false∧U 0=none∧at_=a0)∨(b0=true∧at_=a0+1∧ws[a0]?=some x∧∃ v,U 0=some v.C.o∧ConcN.upd L v'.C.o.gid (some v2) v.C.o.gid=some v∧v.C.slot=0∧∀ K,v.S K=putS):=by
   rcases h0 with h|⟨e1,e2,e3,u,u1,u2,u3,u4⟩
   ·exact .inl h
   ·exact .inr ⟨e1,e2,e3,u,u1,oth u u1 u2,u3,u4⟩
  rcases hph with ⟨hgg,hvS⟩|⟨hgg,hwy,hvS⟩
  ·rw [hvS] at hS2 ⊢
   cases q with
   | nil =>
    have e:=(take_turn hS).1 rfl
    rw [e] at hS2 ⊢
    exact ⟨a0,g,[],x,y,hS,hga,hal,hq,h0',.inr ⟨rfl,v2,hUm,me,hslm,.inl ⟨hgg,fun K=>by rw [hS2]⟩⟩⟩
   | cons z r' =>
    obtain ⟨K',e,hS'⟩:=(take_turn hS).2 z r' rfl
    rw [e] at hS2 ⊢
    obtain ⟨t1,t2,t3⟩:=take_cons hga hal hq.symm
    exact ⟨a0,g+1,r',x,z,hS',by omega,hal,t3,h0',.inr ⟨rfl,v2,hUm,me,hslm,.inr ⟨by omega,by rw [hgg];exact t2,fun K=>by rw [hS2]⟩⟩⟩
  ·exfalso
   rw [hvS] at hcl
   obtain ⟨n',a',b',c',hc⟩:=hcl
   rw [load_turn hS] at hc
   cases hc
 ·obtain rfl:1=q':=by omega
  obtain rfl:=who v' hU hv
  unfold Lv.turn at hdn co2
  rw [hsl0] at hdn co2
  obtain ⟨hgg,hwy,hvS⟩:got+1=g∧ws[got]?=some y∧∀ K,v'.S K=loadS:=by
   rcases hph with ⟨hgg,hvS⟩|h
   ·exfalso
    rw [hvS] at hdn
    cases q with
    | nil=>rw [(take_turn hS).1 rfl] at hdn;cases hdn
    | cons z r' =>
     obtain ⟨K',e,_⟩:=(take_turn hS).2 z r' rfl
     rw [e] at hdn;cases hdn
   ·exact h
  rw [hvS] at hdn co2
  rw [load_turn hS] at hdn co2
  obtain ⟨rfl,rfl⟩:y=val∧(0:Int)=err:=by injection hdn with h1 h2;exact ⟨h1,h2⟩
  have nx:¬ LibEx b V 1 kb.bk:=fun h=>by
   rcases h with h|h|h
   ·exact ci1.lm.m.mbu.bk h.symm
   ·exact ci1.lm.m.mbn.bk h.symm
   ·exact (ci1.lm.m.mls 1 (by omega) _ h).bk rfl
  have ci2:=ci1.over (p:=1) (by omega) hU hv co2 (ci1.co.nS co2 (hk _ ci1.co.bkMn nx).2) hk lm2
  have lz2:=si1.lz.over (p:=1) (m:=N 1+1) (cap:=cap) (by omega) hg hk
  have oth:∀ u:Lv,U 0=some u.C.o→L u.C.o.gid=some u→ConcN.upd L v'.C.o.gid none u.C.o.gid=some u:=fun u e1 e2=>by
   rw [ConcN.upd_ne _ _ (other_ne ci1 (p:=1) (q:=0) (by omega) (by omega) (by omega) hU hv e1 e2)];exact e2
  have hlen5:(Xs 1).length=N 1*5:=(ci1.lm.m.is.own 1 (by omega)).1
  have hNp:=ci1.nb 1 (by omega)
  rw [fin_at ho31,hd31]
  obtain ⟨wg,wo,rfl,hgl,hcx⟩:=hW got y hwy
  have hx2:w2.cell? ⟨wg,wo+got,none⟩=some (.int .i64 y):=(World.cell?_of_block (w:=W) (ci2.old wg hgl).2).trans hcx
  have hgt:got<ws.length:=(List.getElem?_eq_some_iff.1 hwy).1
  have hga2:got<at_:=by
   rcases h0 with ⟨_,_,e⟩|⟨_,e,_⟩<;>omega
  refine x_liv (sn_over1 (m:=N 1) (k0:=v'.C.kd) (k1:=v'.C.A) (k2:=v'.C.B) (x:=y) (by omega) hga2 (by omega) hx2 (ci2.old wg hgl).1.lt (by have:=si1.zW;omega) ci2.co.env.fit lz2.is lz2.mw.sf (by omega) (fun w1 hs1 hk1 hB1 fr cs d=>done_law ((ci2.wrote lz2 (by omega) (fun j _ hne=>hk1 j hne) si1.zW).grown (Grown.refl trivial)) (by omega) (p:=1) (m:=N 1) (by omega) (by simp [setV]) (Y:=Xs 1) (es:=ent v'.C.kd v'.C.A v'.C.B 0 y) (by simp [setV]) hlen5 rfl fr cs d) (hA1.put_ne' (d:=147) (by decide) _ rfl) _ cs fun a2 w3 hz3 ho3 hB3 hA2=>Br.liv_inBlock (sn_last (by omega) hA2 k cs fun a3 hA3=>fun d3=>.stop ?_))
  have ci3:=(ci2.wrote lz2 hz3 ho3 si1.zW).grown (grown_at w3 d3)
  have lz3:Loc kb b 3 l _ (w3.at d3) _ bz _:=⟨lz2.mw.grow hz3,hB3,lz2.nl,lz2.nu,lz2.nn,lz2.nv⟩
  refine hnext at_ (got+1) b0 false l K _ Inb2 nG _ _ _ _ _ a3 ⟨ci3,lz3,si1.zW,?_⟩ hA3
  refine ⟨a0,g,q,x,y,hS,hga,hal,hq,?_,.inl ⟨rfl,by simp [setU],hgg⟩⟩
  rcases h0 with ⟨e1,e2,e3⟩|⟨e1,e2,e3,u,u1,u2,u3,u4⟩
  ·exact .inl ⟨e1,by simp [setU,e2],e3⟩
  ·exact .inr ⟨e1,e2,e3,u,by simp [setU,u1],oth u u1 u2,u3,u4⟩
theorem sn_beg0 {wa ya:Option Addr}{wc yl yc i:Nat}(hwl:ws.length<4000000000000)(k:List Item)(cs:List Frame)
  (hdo:∀ l L Inb nG w U a,SI W ws kb b bz j (at_+1:Nat) got true b1 l K L r Inb nG w U V N Xs→Lvs 219 (snE (.slice wa ws.length wc) (.slice ya yl yc) (.pointer (some ⟨kb.bk,0,none⟩)) (.pointer (some ⟨b.bl,0,none⟩)) (((at_+1:Nat):Int)) got bz i [(19,.int .i64 0)]) a→X Tryd.prog Final l Inb nG 0 (G ((base 8).at a k) cs) w)
  (ci:CI W kb b 3 j l K L r Inb nG w U V N Xs)(lz:Loc kb b 3 l L w V bz (.cells #[.bool false,.bool b1] 77 (0,0)))(zW:W.heap.size≤bz)
  (hway:∃ a g q x y,Snd K q x y∧g≤a∧a≤ws.length∧q=(ws.drop g).take (a - g)∧(at_=a∧ws[a]?=some x)∧U 0=none∧((b1=false∧U 1=none∧got=g)∨(b1=true∧∃ v,U 1=some v.C.o∧L v.C.o.gid=some v∧v.C.slot=1∧((got=g∧∀ K,v.S K=takeS)∨(got+1=g∧ws[got]?=some y∧∀ K,v.S K=loadS)))))
  {a:Act}(hA:Lvs 219 (snE (.slice wa ws.length wc) (.slice ya yl yc) (.pointer (some ⟨kb.bk,0,none⟩)) (.pointer (some ⟨b.bl,0,none⟩)) (((at_+1:Nat):Int)) got bz i [(19,.int .i64 0)]) a) :
  X Tryd.prog Final l Inb nG 0 (G (Frame.enter Tryd.prog 17 #[.pointer (some ⟨b.bl,0,none⟩),.int .i64 0,.agg #[.int .i64 4,.int .i64 1,.int .i64 1]] .normal) ((base 8).at a (.inRegion (snOps 28) [3,4] :: .code snSet::k)::cs)) w:=by
 obtain ⟨o28,ho28,hd28⟩:∃ o,(snOps 28)[3]?=some o∧o.dst=some 139:=⟨_,rfl,rfl⟩
 obtain ⟨a0,g,q,x,y,hS,hga,hal,hq,hme,hUp,hoth⟩:=hway
 refine main_Begin ci.co ci.hn ci.lm ci.g0 0 4 1 1 _ _ (fun h=>?_) (fun _ _ h=>?_) (fun _ _ q' o hq' _ h=>?_) (fun _ _ q' hq' hqn hU w2 C H Inb2 c1 c2 c3 c4 c5 c6 c7 c8 c9=>?_)
 ·exfalso;omega
 ·exfalso;simp at h
 ·obtain rfl:0=q':=by omega
  rw [hUp] at h;cases h
 ·obtain rfl:0=q':=by omega
  have ci2:=ci.begun (p:=0) (by omega) hU c6 c7 c8 c9
  have lz2:=lz.begun c8
  rw [fin_at ho28,hd28]
  refine x_liv (sn_begun0 ci2.co.env.fit lz2.is lz2.mw.sf (hA.put_ne' (d:=139) (by decide) _ rfl) k cs fun a2 w3 hs3 hk3 hB3 hA3=>fun d3=>.stop ?_)
  have ci3:=(ci2.wrote lz2 (by omega) (fun j _ hne=>hk3 j hne) zW).grown (grown_at w3 d3)
  have lz3:Loc kb b 3 (C.o::l) _ (w3.at d3) V bz _:=⟨lz2.mw.grow (by show w2.heap.size≤w3.heap.size;omega),hB3,lz2.nl,lz2.nu,lz2.nn,lz2.nv⟩
  have old:∀ u:Lv,U 1=some u.C.o→L u.C.o.gid=some u→ConcN.upd L nG (some (⟨C,opStrat C 0,[C.o.bo],H,[runFr C.o,bot]⟩:Lv)) u.C.o.gid=some u:=fun u e1 e2=>by
   have:=(ci.co.gid _ u e2).2.2
   rw [ConcN.upd_ne _ _ (by omega)];exact e2
  have new:ConcN.upd L nG (some (⟨C,opStrat C 0,[C.o.bo],H,[runFr C.o,bot]⟩:Lv)) C.o.gid=some ⟨C,opStrat C 0,[C.o.bo],H,[runFr C.o,bot]⟩:=by rw [c6,ConcN.upd_same]
  refine hdo _ _ _ _ _ _ a2 ⟨ci3,lz3,zW,⟨a0,g,q,x,y,hS,hga,hal,hq,?_⟩⟩ hA3
  have hst:∀ K,opStrat C 0 K=putS:=fun K=>put_strat c2 c3 c4 0 K
  refine ⟨.inr ⟨rfl,by omega,hme.2,⟨C,opStrat C 0,[C.o.bo],H,[runFr C.o,bot]⟩,by simp [setO],new,c1,hst⟩,?_⟩
  rcases hoth with ⟨e1,e2,e3⟩|⟨e1,u,u1,u2,u3,u4⟩
  ·exact .inl ⟨e1,by simp [setO,e2],e3⟩
  ·exact .inr ⟨e1,u,by simp [setO,u1],old u u1 u2,u3,u4⟩
theorem sn_beg1 {wa ya:Option Addr}{wc yl yc i:Nat}(hwl:ws.length<4000000000000)(k:List Item)(cs:List Frame)
  (hdo:∀ l L Inb nG w U a,SI W ws kb b bz j at_ got b0 true l K L r Inb nG w U V N Xs→Lvs 219 (snE (.slice wa ws.length wc) (.slice ya yl yc) (.pointer (some ⟨kb.bk,0,none⟩)) (.pointer (some ⟨b.bl,0,none⟩)) at_ got bz i [(19,.int .i64 1)]) a→X Tryd.prog Final l Inb nG 0 (G ((base 8).at a k) cs) w)
  (ci:CI W kb b 3 j l K L r Inb nG w U V N Xs)(lz:Loc kb b 3 l L w V bz (.cells #[.bool b0,.bool false] 77 (0,0)))(zW:W.heap.size≤bz)
  (hway:∃ a g q x y,Snd K q x y∧g≤a∧a≤ws.length∧q=(ws.drop g).take (a - g)∧got=g∧U 1=none∧((b0=false∧U 0=none∧at_=a)∨(b0=true∧at_=a+1∧ws[a]?=some x∧∃ v,U 0=some v.C.o∧L v.C.o.gid=some v∧v.C.slot=0∧∀ K,v.S K=putS)))
  {a:Act}(hA:Lvs 219 (snE (.slice wa ws.length wc) (.slice ya yl yc) (.pointer (some ⟨kb.bk,0,none⟩)) (.pointer (some ⟨b.bl,0,none⟩)) at_ got bz i [(19,.int .i64 1)]) a) :
  X Tryd.prog Final l Inb nG 0 (G (Frame.enter Tryd.prog 17 #[.pointer (some ⟨b.bl,0,none⟩),.int .i64 1,.agg #[.int .i64 5,.int .i64 2,.int .i64 0]] .normal) ((base 8).at a (.inRegion (snOps 28) [3,4] :: .code snSet::k)::cs)) w:=by
 obtain ⟨o28,ho28,hd28⟩:∃ o,(snOps 28)[3]?=some o∧o.dst=some 139:=⟨_,rfl,rfl⟩
 obtain ⟨a0,g,q,x,y,hS,hga,hal,hq,hme,hUp,hoth⟩:=hway
 refine main_Begin ci.co ci.hn ci.lm ci.g0 1 5 2 0 _ _ (fun h=>?_) (fun _ _ h=>?_) (fun _ _ q' o hq' _ h=>?_) (fun _ _ q' hq' hqn hU w2 C H Inb2 c1 c2 c3 c4 c5 c6 c7 c8 c9=>?_)
 ·exfalso;omega
 ·exfalso;simp at h
 ·obtain rfl:1=q':=by omega
  rw [hUp] at h;cases h
 ·obtain rfl:1=q':=by omega
  have ci2:=ci.begun (p:=1) (by omega) hU c6 c7 c8 c9
  have lz2:=lz.begun c8
  rw [fin_at ho28,hd28]
  refine x_liv (sn_begun1 ci2.co.env.fit lz2.is lz2.mw.sf (hA.put_ne' (d:=139) (by decide) _ rfl) k cs fun a2 w3 hs3 hk3 hB3 hA3=>fun d3=>.stop ?_)
  have ci3:=(ci2.wrote lz2 (by omega) (fun j _ hne=>hk3 j hne) zW).grown (grown_at w3 d3)
  have lz3:Loc kb b 3 (C.o::l) _ (w3.at d3) V bz _:=⟨lz2.mw.grow (by show w2.heap.size≤w3.heap.size;omega),hB3,lz2.nl,lz2.nu,lz2.nn,lz2.nv⟩
  have old:∀ u:Lv,U 0=some u.C.o→L u.C.o.gid=some u→ConcN.upd L nG (some (⟨C,opStrat C 1,[C.o.bo],H,[runFr C.o,bot]⟩:Lv)) u.C.o.gid=some u:=fun u e1 e2=>by
   have:=(ci.co.gid _ u e2).2.2
   rw [ConcN.upd_ne _ _ (by omega)];exact e2
  have new:ConcN.upd L nG (some (⟨C,opStrat C 1,[C.o.bo],H,[runFr C.o,bot]⟩:Lv)) C.o.gid=some ⟨C,opStrat C 1,[C.o.bo],H,[runFr C.o,bot]⟩:=by rw [c6,ConcN.upd_same]
  refine hdo _ _ _ _ _ _ a2 ⟨ci3,lz3,zW,⟨a0,g,q,x,y,hS,hga,hal,hq,?_⟩⟩ hA3
  have hst:∀ K,opStrat C 1 K=takeS:=fun K=>take_strat c2 c3 c4 1 K
  refine ⟨?_,.inr ⟨rfl,⟨C,opStrat C 1,[C.o.bo],H,[runFr C.o,bot]⟩,by simp [setO],new,c1,.inl ⟨hme,hst⟩⟩⟩
  rcases hoth with ⟨e1,e2,e3⟩|⟨e1,e2,e3,u,u1,u2,u3,u4⟩
  ·exact .inl ⟨e1,by simp [setO,e2],e3⟩
  ·exact .inr ⟨e1,e2,e3,u,by simp [setO,u1],old u u1 u2,u3,u4⟩
theorem sn_loop {wa ya:Option Addr}{wc yc:Nat}{ys:List Bool}(hW:WordsAt W wa ws)(hY:∀ i y,ys[i]?=some y→∃ g o,ya=some ⟨g,o,none⟩∧g<W.heap.size∧W.cell? ⟨g,o+i,none⟩=some (.bool y))(hwl:ws.length<4000000000000)(hyl:ys.length<3000000000000)(k:List Item)(cs:List Frame)
  (hdone:∀ at_ got b0 b1 l K L Inb nG w U V N Xs a,SI W ws kb b bz (3+ys.length) at_ got b0 b1 l K L 0 Inb nG w U V N Xs→Lvs 219 (snE (.slice wa ws.length wc) (.slice ya ys.length yc) (.pointer (some ⟨kb.bk,0,none⟩)) (.pointer (some ⟨b.bl,0,none⟩)) at_ got bz ys.length []) a→X Tryd.prog Final l Inb nG 0 (G ((base 8).at a (.code snLoop::.inLoop snLoop::.inBlock 0::.code snEnd::k)) cs) w) :
  ∀ m i,m+i=ys.length→∀ at_ got b0 b1 l K L Inb nG w U V N Xs a,SI W ws kb b bz (3+i) at_ got b0 b1 l K L m Inb nG w U V N Xs→Lvs 219 (snE (.slice wa ws.length wc) (.slice ya ys.length yc) (.pointer (some ⟨kb.bk,0,none⟩)) (.pointer (some ⟨b.bl,0,none⟩)) at_ got bz i []) a→X Tryd.prog Final l Inb nG 0 (G ((base 8).at a (.code snLoop::.inLoop snLoop::.inBlock 0::.code snEnd::k)) cs) w:=by
 intro m
 induction m with
 | zero =>
  intro i hi at_ got b0 b1 l K L Inb nG w U V N Xs a si hA
  obtain rfl:i=ys.length:=by omega
  exact hdone at_ got b0 b1 l K L Inb nG w U V N Xs a si hA
 | succ m ih =>
  intro i hi at_ got b0 b1 l K L Inb nG w U V N Xs a si hA
  have hlt:i<ys.length:=by omega
  have next:∀ at_ got b0 b1 l K L Inb nG w U V N Xs a,SI W ws kb b bz (3+i+1) at_ got b0 b1 l K L m Inb nG w U V N Xs→Lvs 219 [(0,.slice wa ws.length wc),(1,.slice ya ys.length yc),(5,.bool true),(6,.pointer (some ⟨kb.bk,0,none⟩)),(8,.pointer (some ⟨b.bl,0,none⟩)),(15,.int .i64 at_),(16,.int .i64 got),(17,.pointer (some ⟨bz,0,none⟩)),(18,.int .i64 (((i+1:Nat):Int)))] a→X Tryd.prog Final l Inb nG 0 (G ((base 8).at a (.code snLoop::.inLoop snLoop::.inBlock 0::.code snEnd::k)) cs) w:=fun at_ got b0 b1 l K L Inb nG w U V N Xs a s h=>ih (i+1) (by omega) at_ got b0 b1 l K L Inb nG w U V N Xs a s h
  obtain ⟨yg,yo,rfl,hyg,hyc⟩:=hY i ys[i] (List.getElem?_eq_getElem hlt)
  have hyw:w.cell? ⟨yg,yo+i,none⟩=some (.bool ys[i]):=(World.cell?_of_block (w:=W) (si.ci.old yg hyg).2).trans hyc
  obtain ⟨a0,g,q,x,y,hS,hga,hal,hq,h0,h1⟩:=si.way.is
  cases hy:ys[i] with
  | false =>
   rw [hy] at hyw
   refine x_liv (sn_head0 hlt hyw hA k cs fun a1 hA1=>?_)
   cases b0 with
   | true=>exact sn_on0 (b0:=true) si.lz.is hA1 k cs fun a2 hA2=>fun d=>.stop (sn_do0 hW hwl (by omega) (by omega) k cs next (si.grown (grown_at w d)) hA2)
   | false =>
    obtain ⟨_,hU0,hat⟩:=h0.resolve_right (fun h=>by cases h.1)
    by_cases hl:at_=ws.length
    ·refine sn_none (b0:=false) hl si.lz.is hA1 k cs fun a2 hA2=>?_
     refine sn_last (by omega) (hA2.sub (env':=(snE (.slice wa ws.length wc) (.slice (some ⟨yg,yo,none⟩) ys.length yc) (.pointer (some ⟨kb.bk,0,none⟩)) (.pointer (some ⟨b.bl,0,none⟩)) at_ got bz i [])) (fun p hp=>by
      simp only [List.mem_cons,List.not_mem_nil,or_false] at hp
      rcases hp with rfl|rfl|rfl|rfl|rfl|rfl|rfl|rfl|rfl<;>rfl)) k cs fun a3 hA3=>fun d=>.stop ?_
     exact next at_ got false b1 l K L Inb nG _ U V N Xs a3 ⟨((si.ci.less (by omega)).more (by omega)).grown (grown_at w d),si.lz.grown (grown_at w d),si.zW,si.way⟩ hA3
    ·have hlt2:at_<ws.length:=by omega
     obtain ⟨wg,wo,rfl,hwg,hwc⟩:=hW at_ ws[at_] (List.getElem?_eq_getElem hlt2)
     refine sn_put (b0:=false) hl si.lz.is hA1 k cs fun a2 hA2=>?_
     refine sn_put1 si.ci.co.env.fit si.ci.co.env.ko hlt2 ((World.cell?_of_block (w:=W) (si.ci.old wg hwg).2).trans hwc) (si.ci.old wg hwg).1.lt hA2 _ cs fun a3 w1 hG1 hX1 hA3 d1=>?_
     have si1:=si.grown (hG1.trans (grown_at w1 d1))
     have lo:Loc kb b 3 l L (w1.at d1) V w.heap.size _:=loc_new si.ci.co si.ci.lm (Nat.le_refl _) hX1
     refine x_liv (fun d2=>(must_mcall si1.ci.co 0 19 0 1 ws[at_] _ cs d2).mono (fun _ _ _ h=>h) ?_)
     rintro g2 w2 ⟨rfl,co2,kp⟩
     have ci2:=si1.ci.call co2 (si1.ci.co.nS co2 (kp _ si1.ci.co.bkMn).2) kp
     have lz2:=si1.lz.goes kp
     have lo2:=lo.goes kp
     have hS2:=snd_store hS ws[at_]
     obtain ⟨o26,ho26,hd26⟩:∃ o,(snOps 26)[6]?=some o∧o.dst=some 133:=⟨_,rfl,rfl⟩
     rw [fin_at ho26,hd26]
     refine x_liv (sn_put2 (at_:=at_) (v133:=undef) (by omega) lo2.is ((hA3.put (d:=133) (by decide) _).sub (fun p hp=>by
      simp only [List.mem_cons,List.not_mem_nil,or_false] at hp
      rcases hp with rfl|rfl|rfl|rfl|rfl|rfl|rfl|rfl|rfl|rfl|rfl<;>rfl)) _ cs fun a4 hA4 d4=>?_)
     refine sn_beg0 hwl _ cs (fun l L Inb nG w U a s h=>sn_do0 hW hwl (by omega) (by omega) k cs next s h) (ci2.grown (grown_at w2 d4)) (lz2.grown (grown_at w2 d4)) si.zW ⟨a0,g,q,ws[at_],y,hS2,hga,hal,hq,⟨hat,by rw [← hat];exact List.getElem?_eq_getElem hlt2⟩,hU0,h1⟩ hA4
  | true =>
   rw [hy] at hyw
   refine x_liv (sn_head1 hlt hyw hA k cs fun a1 hA1=>?_)
   cases b1 with
   | true=>exact sn_on1 (b1:=true) si.lz.is hA1 k cs fun a2 hA2=>fun d=>.stop (sn_do1 hW hwl (by omega) (by omega) k cs next (si.grown (grown_at w d)) hA2)
   | false =>
    obtain ⟨_,hU1,hgg⟩:=h1.resolve_right (fun h=>by cases h.1)
    refine sn_take (b1:=false) si.lz.is hA1 k cs fun a2 hA2=>?_
    refine sn_take1 si.ci.co.env.fit si.ci.co.env.ko hA2 _ cs fun a3 w1 hG1 hA3 d1=>?_
    have si1:=si.grown (hG1.trans (grown_at w1 d1))
    refine sn_beg1 hwl _ cs (fun l L Inb nG w U a s h=>sn_do1 hW hwl (by omega) (by omega) k cs next s h) si1.ci si1.lz si.zW ⟨a0,g,q,x,y,hS,hga,hal,hq,hgg,hU1,h0⟩ hA3
end
theorem Way.bound {ws:List Int}{at_ got:Nat}{b0 b1:Bool}{K:Ker}{U:Nat→Option OpD}{L:Nat→Option Lv}(h:Way ws at_ got b0 b1 K U L):got≤at_∧at_ - got≤6∧at_≤ws.length:=by
 obtain ⟨a,g,q,x,y,hS,hga,hal,hq,h0,h1⟩:=h.is
 have hl:q.length=a - g:=by rw [hq,List.length_take,List.length_drop];omega
 have:=hS.le
 have e0:at_=a∨(at_=a+1∧a<ws.length):=by
  rcases h0 with ⟨_,_,e⟩|⟨_,e,hx,_⟩
  ·exact .inl e
  ·exact .inr ⟨e,(List.getElem?_eq_some_iff.1 hx).1⟩
 have e1:got=g∨got+1=g:=by
  rcases h1 with ⟨_,_,e⟩|⟨_,v,_,_,_,⟨e,_⟩|⟨e,_⟩⟩
  ·exact .inl e
  ·exact .inl e
  ·exact .inr e
 omega
theorem sends_run (W:World)(T:Tab W)(wa ya:Option Addr)(ws:List Int)(ys:List Bool)(wc yc:Nat)(hW:WordsAt W wa ws)(hY:∀ i y,ys[i]?=some y→∃ g o,ya=some ⟨g,o,none⟩∧g<W.heap.size∧W.cell? ⟨g,o+i,none⟩=some (.bool y))(hwl:ws.length<3000000000000)(hyl:ys.length<3000000000000) :
  ∃ N last o w' t',runNT Tryd.prog (N+1) (solo (G (Frame.enter Tryd.prog 8 #[.slice wa ws.length wc,.slice ya ys.length yc] .normal) []) W) #[]=(.ended o w',t')∧runN Tryd.prog N (solo (G (Frame.enter Tryd.prog 8 #[.slice wa ws.length wc,.slice ya ys.length yc] .normal) []) W)=.next last∧step Tryd.prog last=.ended o w' ∧
   Go.Conc.Good Tryd.prog (fun v w'=>(v=.bool true∧W.heap.size≤w'.heap.size∧∀ k,k<W.heap.size→w'.heap[k]?=W.heap[k]?)∧Br.Calm W w') last o w' t':=by
 obtain ⟨a,e,hA⟩:=sn_enter (.slice wa ws.length wc) (.slice ya ys.length yc)
 rw [e]
 refine run_of_x (Post:=fun v w'=>v=.bool true∧W.heap.size≤w'.heap.size∧∀ k,k<W.heap.size→w'.heap[k]?=W.heap[k]?) (x_liv ?_)
 refine sn_a T hA [] [] (fun a1 w1 kb b hG1 g1 g2 g3 g4 hco hlm hbu hA1=>?_)
 have s1:=hG1.size
 have ci0:∀ r,CI W kb b 3 0 [] sn0 (fun _=>none) r (fun _=>none) 1 w1 (fun _=>none) (fun _=>.slice none 0 0) (fun _=>0) (fun _=>[]):=fun r=>by
  refine ⟨hco r,rfl,hlm,by omega,fun p q o hp hq e=>(by cases e),fun g v h=>(by cases h),fun _ _=>Nat.le_refl _,fun p hp x hx=>(by cases hx),fun k hk=>⟨⟨Nat.lt_of_lt_of_le hk s1,by omega,by omega,by omega,fun g v h=>(by cases h)⟩,hG1.old k hk⟩,?_,hbu.1,hbu.2⟩
  have:=hlm.m.is.ne
  omega
 unfold snRest
 refine sn_to8 hA1 _ _ (fun a2 hA2 d2=>?_)
 obtain ⟨o8,ho8,hd8⟩:∃ o,(snOps 8)[2]?=some o∧o.dst=some 49:=⟨_,rfl,rfl⟩
 refine main_ends (p:=0) (m:=0) (v:=0) (e:=0) (K':=sn1) ((ci0 0).grown (grown_at w1 d2)) (by omega) s1 (by omega) (by omega) (by omega) (by omega) sn_grow _ _ (fun l3 Inb3 nG3 w3 V3 N3 Xs3 ci3 lk3=>?_)
 rw [fin_at ho8,hd8]
 have z3:W.heap.size≤w3.heap.size:=by
  rcases Nat.lt_or_ge W.heap.size 1 with h|h
  ·omega
  ·have:=((ci3 0).old (W.heap.size - 1) (by omega)).1.lt;omega
 refine x_liv (sn_of8 (ci3 0).co.env.fit (ci3 0).co.env.ko (hA2.put_ne' (d:=49) (by decide) _ rfl) _ _ (fun a4 w4 hG4 hX4 hA4=>?_))
 have l9:Loc kb b 3 l3 (fun _=>none) w4 V3 w3.heap.size _:=loc_new (ci3 0).co (ci3 0).lm (Nat.le_refl _) hX4
 refine sn_to9 hA4 _ _ (fun a5 hA5 d5=>?_)
 obtain ⟨o9,ho9,hd9⟩:∃ o,(snOps 9)[2]?=some o∧o.dst=some 55:=⟨_,rfl,rfl⟩
 have z4:=hG4.size
 refine main_ends (p:=0) (m:=0) (v:=0) (e:=0) (K':=sn2) ((ci3 0).grown (hG4.trans (grown_at w4 d5))) (by omega) (by show W.heap.size≤w4.heap.size;omega) (by omega) (by omega) (by omega) (by omega) sn_pipe _ _ (fun l6 Inb6 nG6 w6 V6 N6 Xs6 ci6 lk6=>?_)
 rw [fin_at ho9,hd9]
 have l9b:=lk6 _ _ (l9.grown (grown_at w4 d5))
 refine x_liv (sn_of9 (ci6 0).co.env.fit (ci6 0).co.env.ko (hA5.put_ne' (d:=55) (by decide) _ rfl) _ _ (fun a7 w7 hG7 hX7 hA7=>?_))
 have l9c:=l9b.grown hG7
 have l11:Loc kb b 3 l6 (fun _=>none) w7 V6 w6.heap.size _:=loc_new (ci6 0).co (ci6 0).lm (Nat.le_refl _) hX7
 have z6:W.heap.size≤w6.heap.size:=by have:=l9b.lt;omega
 have z7:=hG7.size
 refine sn_to10 hA7 _ _ (fun a8 hA8 d8=>?_)
 obtain ⟨o10,ho10,hd10⟩:∃ o,(snOps 10)[2]?=some o∧o.dst=some 61:=⟨_,rfl,rfl⟩
 refine main_ends (p:=0) (m:=4) (v:=1) (e:=0) (K':=sn7) ((ci6 0).grown (hG7.trans (grown_at w7 d8))) (by omega) (by show W.heap.size≤w7.heap.size;omega) (by omega) (by omega) (by omega) (by omega) sn_fork _ _ (fun l9' Inb9 nG9 w9 V9 N9 Xs9 ci9 lk9=>?_)
 rw [fin_at ho10,hd10]
 have l9d:=lk9 _ _ (l9c.grown (grown_at w7 d8))
 have l11b:=lk9 _ _ (l11.grown (grown_at w7 d8))
 refine x_liv (sn_of10 (ci9 0).co.env.fit (ci9 0).co.env.ko (hA8.put_ne' (d:=61) (by decide) _ rfl) _ _ (fun a10 w10 hG10 hX10 hA10=>?_))
 have l13:Loc kb b 3 l9' (fun _=>none) w10 V9 w9.heap.size _:=loc_new (ci9 0).co (ci9 0).lm (Nat.le_refl _) hX10
 have ci10:=fun r=>(ci9 r).grown hG10
 have z9:W.heap.size≤w9.heap.size:=by have:=l9d.lt;omega
 have z10:=hG10.size
 refine sn_mid (ci10 0).co.env.fit (ci10 0).co.env.ko (l9d.grown hG10).is (l11b.grown hG10).is hX10 hA10 _ _ (fun a11 w11 hG11 hX11 hA11=>fun d11=>.stop ?_)
 have ci11:=fun r=>(ci10 r).grown (hG11.trans (grown_at w11 d11))
 have lz:Loc kb b 3 l9' (fun _=>none) (w11.at d11) V9 w10.heap.size _:=loc_new (ci10 0).co (ci10 0).lm (Nat.le_refl _) hX11
 refine sn_loop (ys:=ys) hW hY (by omega) hyl [] [] (fun at_ got b0 b1 l K L Inb nG w U V N Xs a si hA=>?_) ys.length 0 (by omega) 0 0 false false l9' sn7 (fun _=>none) Inb9 nG9 _ (fun _=>none) V9 N9 Xs9 a11 ⟨(ci11 _).more (by omega),lz,by omega,⟨0,0,[],0,0,snd_start,by omega,by omega,by simp,.inl ⟨rfl,rfl,rfl⟩,.inl ⟨rfl,rfl,rfl⟩⟩⟩ hA11
 obtain ⟨q1,q2,q3⟩:=si.way.bound
 refine x_liv (sn_stop hA [] [] (fun a12 hA12 d12=>?_))
 have si12:=si.grown (grown_at w d12)
 obtain ⟨o41,ho41,hd41⟩:∃ o,(snOps 41)[1]?=some o∧o.dst=some 206:=⟨_,rfl,rfl⟩
 refine main_Cancel si12.ci.co si12.ci.lm _ _ (fun L13 Inb13 w13 co13 lm13 hk13 hL13=>?_)
 obtain ⟨ci13,hL0⟩:=si12.ci.cancelled co13 lm13 hk13 hL13
 rw [fin_at ho41,hd41]
 refine x_liv (sn_ans q1 q2 (by omega) ((hA12.put (d:=206) (by decide) _).sub (fun p hp=>by
  simp only [List.mem_cons,List.not_mem_nil,or_false] at hp
  rcases hp with rfl|rfl|rfl<;>rfl)) [] [] (fun a14 hA14=>?_))
 refine Br.liv_ret ?_
 refine fun d=>.stop ?_
 have h4:a14.tmps.getD 4 undef=.bool true:=by
  have:=hA14.at (t:=4) rfl
  simp [this]
 have hres:ResultsC Tryd.prog Tryd.f8 a14.tmps (.bool true):=by
  rw [← h4];exact resultsC_tmp (by kernel_rfl) _
 refine x_fin (v:=.bool true) rfl (fun d'=>stepG_home rfl hA14.defers Tryd.func8 (by kernel_rfl) hres) (fun d'=>⟨rfl,?_,fun k hk=>(ci13.old k hk).2⟩) (fun i hi=>ci13.co.none i hi (hL0 i))
 ·show W.heap.size≤w13.heap.size
  rcases Nat.lt_or_ge W.heap.size 1 with h|h
  ·omega
  ·have:=(ci13.old (W.heap.size - 1) (by omega)).1.lt;omega
end Go.Proofs.YtcgabodkegcpgaaDoor
