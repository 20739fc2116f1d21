/- burrowlaw.ends in company, whole: with nobody else under way it tells what the operation comes to, played alone. -/
import Derived.Test.YtcgabodkegcpgaaDoorEny
set_option linter.unusedVariables false
set_option linter.unusedSimpArgs false
set_option maxHeartbeats 20000000
set_option maxRecDepth 100000
namespace Go.Proofs.YtcgabodkegcpgaaDoor
open Go.Conc Go.RowKit
open Br (X OpD KO SO SP sfO Lk Fit Must DL Liv Clear)
theorem upd_again {α:Type}(g:Nat)(x y:α):ConcN.upd (ConcN.upd (fun _=>x) g y) g x=fun _=>x:=by
 funext i
 by_cases e:i=g
 ·subst e;rw [ConcN.upd_same]
 ·rw [ConcN.upd_ne _ _ e,ConcN.upd_ne _ _ e]
theorem upd_over {α:Type}(f:Nat→α)(g:Nat)(x y:α):ConcN.upd (ConcN.upd f g x) g y=ConcN.upd f g y:=by
 funext i
 by_cases e:i=g
 ·subst e;rw [ConcN.upd_same,ConcN.upd_same]
 ·rw [ConcN.upd_ne _ _ e,ConcN.upd_ne _ _ e,ConcN.upd_ne _ _ e]
theorem setU_setO (p:Nat)(o:OpD):setU (setO (fun _=>none) p o) p=fun _=>none:=by
 funext q
 unfold setU setO
 by_cases e:q=p<;>simp [e]
theorem Alone.inv {slot:Int}{s s':Strat}{K K':Ker}{m:Nat}(h:Alone slot s K (m+1) s' K'):∃ num a b c,s []=.call num a b c∧Alone slot (run1 slot s K).2 (run1 slot s K).1 m s' K':=by
 cases h with
 | call num a b c hc hn=>exact ⟨num,a,b,c,hc,by rw [run1_call hc];exact hn⟩
theorem Alone.first {slot:Int}{s s':Strat}{K K':Ker}{m:Nat}(h:Alone slot s K (m+1) s' K'):∃ num a b c,s []=.call num a b c:=by
 obtain ⟨num,a,b,c,hc,_⟩:=h.inv
 exact ⟨num,a,b,c,hc⟩
theorem Alone.zero {slot:Int}{s s':Strat}{K K':Ker}(h:Alone slot s K 0 s' K'):s=s'∧K=K':=by
 cases h
 exact ⟨rfl,rfl⟩
section
variable {Final:Machine→Trace→Prop} {w0:World} {kb:Kb} {b:Lb} {n i:Nat} {l:List OpD} {K:Ker} {r:Nat} {Inb:Nat→Option Seat} {nG:Nat} {w:World} {V:Nat→Value} {N:Nat→Nat} {Xs:Nat→List Value}
theorem en_loop (hi:i≤4000000000000)(w1:World)(h01:w0.heap.size≤w1.heap.size){p:Nat}(hp:p<n){kd A B v e:Int}{K':Ker}(C:Ctx)(hCs:C.slot=p)(hCk:C.kd=kd)(hCA:C.A=A)(hCB:C.B=B)(hCg:C.o.gid=nG)(bx y:Nat)(hy:w1.heap.size≤y)(fr:Frame)(cs:List Frame)
  (hx:∀ Inb' w' V' N' Xs',(∀ r,CI w0 kb b n (i+1) (C.o::l) K' (fun _=>none) r Inb' (nG+1) w' (fun _=>none) V' N' Xs')→(∀ k x,Loc kb b n l (fun _=>none) w1 V k x→Loc kb b n (C.o::l) (fun _=>none) w' V' k x)→X Tryd.prog Final (C.o::l) Inb' (nG+1) 0 (G (fr.finish (.tuple #[.agg #[.int .i64 kd,.int .i64 A,.int .i64 B,.int .i64 e,.int .i64 v],.bool true])) cs) w') :
  ∀ (m j:Nat),j+m<100→∀ (K1:Ker) (u:Lv) Inb w a,u.C=C→Alone p (u.S K1) K1 (m+1) (fun _=>.done v e) K'→CI w0 kb b n i (C.o::l) K1 (ConcN.upd (fun _=>none) nG (some u)) (m+1) Inb (nG+1) w (setO (fun _=>none) p C.o) V N Xs →
   Loc kb b n (C.o::l) (ConcN.upd (fun _=>none) nG (some u)) w V bx (.cells #[.int .i64 kd,.int .i64 A,.int .i64 B] 38 (0,0))→Loc kb b n (C.o::l) (ConcN.upd (fun _=>none) nG (some u)) w V y (.cells #[.int .i64 0,.int .i64 0,.int .i64 0,.int .i64 0,.int .i64 0] 70 (0,0)) →
   (∀ k x,Loc kb b n l (fun _=>none) w1 V k x→Loc kb b n (C.o::l) (ConcN.upd (fun _=>none) nG (some u)) w V k x) →
   Lvs 67 [(0,.pointer (some ⟨b.bl,0,none⟩)),(1,.int .i64 p),(5,.pointer (some ⟨bx,0,none⟩)),(6,.pointer (some ⟨y,0,none⟩)),(7,.bool false),(9,.int .i64 j)] a →
   X Tryd.prog Final (C.o::l) Inb (nG+1) 0 (G ((base 23).at a (.code enLoop::.inLoop enLoop::.inBlock 0::.code (.seq (rn 15) .ret) :: [])) (fr::cs)) w:=by
 intro m
 induction m with
 | zero =>
  intro j hj K1 u Inb w a hu hAl ci lx ly lk hA
  refine x_liv (en_c (by omega) hA [] (fr::cs) fun a1 hA1 d=>?_)
  have ci1:=ci.grown (grown_at w d)
  have lx1:=lx.grown (grown_at w d)
  have ly1:=ly.grown (grown_at w d)
  obtain ⟨num,c1,c2,c3,hcall,hAl2⟩:=hAl.inv
  obtain ⟨hs2,hK2⟩:=hAl2.zero
  obtain ⟨o7,ho7,hd7⟩:∃ o,(enOps 7)[2]?=some o∧o.dst=some 28:=⟨_,rfl,rfl⟩
  have who:∀ (v':Lv),(setO (fun _=>none) p C.o) p=some v'.C.o→ConcN.upd (fun _=>none) nG (some u) v'.C.o.gid=some v'→v'=u:=fun v' h1 h2=>by
   simp only [setO,if_true,Option.some.injEq] at h1
   rw [← h1,hCg,ConcN.upd_same] at h2
   exact (Option.some.inj h2).symm
  refine main_pickN ci1.co ci1.hn ci1.lm (fun q hq=>by have:=ci1.nb q hq;omega) ci1.u1 p _ _ (fun h=>?_) (fun q hq hqn hU=>?_) (fun q v' hq hqn hU hsl hv w2 v2 Inb2 hC2 hS2 hcl=>?_) (fun q v' hq hqn hU hsl hv w2 Inb2 val err g cap hdn hg co2 hk lm2=>?_)
  ·exfalso;simp at h;omega
  ·obtain rfl:p=q:=by omega
   simp [setO] at hU
  ·obtain rfl:p=q:=by omega
   obtain rfl:=who v' hU hv
   exfalso
   obtain ⟨n',a',b',c',hcl⟩:=hcl
   have hturn:v'.turn K1=run1 p (v'.S K1) K1:=by unfold Lv.turn;rw [hu,hCs]
   rw [hturn,hs2] at hcl
   cases hcl
  ·obtain rfl:p=q:=by omega
   obtain rfl:=who v' hU hv
   have hturn:v'.turn K1=run1 p (v'.S K1) K1:=by unfold Lv.turn;rw [hu,hCs]
   rw [hturn] at hdn co2
   rw [hs2] at hdn
   obtain ⟨rfl,rfl⟩:v=val∧e=err:=by injection hdn with h1 h2;exact ⟨h1,h2⟩
   rw [hK2] at co2
   have nx:¬ LibEx b V p kb.bk:=fun h=>by
    rcases h with h|h|h
    ·exact ci1.lm.m.mbu.bk h.symm
    ·exact ci1.lm.m.mbn.bk h.symm
    ·exact (ci1.lm.m.mls p hp _ h).bk rfl
   have ci2:=ci1.over hp hU hv co2 (ci1.co.nS co2 (hk _ ci1.co.bkMn nx).2) hk lm2
   have lx2:=lx1.over (m:=N p+1) (cap:=cap) hp hg hk
   have ly2:=ly1.over (m:=N p+1) (cap:=cap) hp hg hk
   have lk2:∀ k x,Loc kb b n l (fun _=>none) w1 V k x→k≠y∧Loc kb b n (C.o::l) _ w2 (setV V p (.slice (some ⟨g,0,none⟩) (N p+1) cap)) k x:=fun k x h=>⟨by have:=h.lt;omega,((lk k x h).grown (grown_at w d)).over (m:=N p+1) (cap:=cap) hp hg hk⟩
   rw [hu,hCk,hCA,hCB,hCg,upd_again,setU_setO] at ci2
   rw [hu,hCg,upd_again] at lx2 ly2 lk2
   rw [fin_at ho7,hd7]
   have own:=(ci2.lm.m.is.own p hp)
   have hlen:(Xs p).length=N p*5:=(ci1.lm.m.is.own p hp).1
   have hNp:=ci1.nb p hp
   refine x_liv (en_over (by omega) (hA1.put (d:=28) (by decide) _) [] (fr::cs) fun a2 hA2=>?_)
   refine en_done (m:=N p) (kd:=kd) (A:=A) (B:=B) (er:=e) (va:=v) ci2.co.env.fit hA2 fr cs _ (by omega) (by omega) (fun fr cs d=>?_) lx2.is ly2.is ly2.mw.sf (fun w3 hz3 hk3=>fun d3=>.stop ?_)
   ·refine (must_done ci2.co ci2.lm.m hp (by have:=ci2.nb p hp;omega) (fun x hx=>by obtain ⟨z,rfl⟩:=ci2.ints p hp x hx;rfl) fr cs d).mono (fun _ _ _ h=>h) ?_
    rintro g' w' ⟨x,rfl,hG,rfl,hrow⟩
    simp only [setV,if_true] at hrow ⊢
    refine ⟨_,rfl,hG,rfl,fun j hj=>?_⟩
    rw [hrow.cell (by omega),List.getD_eq_getElem?_getD,List.getElem?_append_right (by omega),hlen,Nat.add_sub_cancel_left]
    unfold ent
    rcases (by omega:j=0∨j=1∨j=2∨j=3∨j=4) with rfl|rfl|rfl|rfl|rfl<;>rfl
   ·have ci3:=(ci2.wrote ly2 hz3 hk3 (by omega)).grown (grown_at w3 d3)
    exact hx _ _ _ _ _ (fun r=>ci3.any r) (fun k x h=>((lk2 k x h).2.wrote hz3 hk3 (lk2 k x h).1).grown (grown_at w3 d3))
 | succ m ih =>
  intro j hj K1 u Inb w a hu hAl ci lx ly lk hA
  refine x_liv (en_c (by omega) hA [] (fr::cs) fun a1 hA1 d=>?_)
  have ci1:=ci.grown (grown_at w d)
  have lx1:=lx.grown (grown_at w d)
  have ly1:=ly.grown (grown_at w d)
  obtain ⟨num,c1,c2,c3,hcall,hAl2⟩:=hAl.inv
  obtain ⟨num2,d1,d2,d3,hcall2⟩:=hAl2.first
  obtain ⟨o7,ho7,hd7⟩:∃ o,(enOps 7)[2]?=some o∧o.dst=some 28:=⟨_,rfl,rfl⟩
  have who:∀ (v':Lv),(setO (fun _=>none) p C.o) p=some v'.C.o→ConcN.upd (fun _=>none) nG (some u) v'.C.o.gid=some v'→v'=u:=fun v' h1 h2=>by
   simp only [setO,if_true,Option.some.injEq] at h1
   rw [← h1,hCg,ConcN.upd_same] at h2
   exact (Option.some.inj h2).symm
  refine main_pickN ci1.co ci1.hn ci1.lm (fun q hq=>by have:=ci1.nb q hq;omega) ci1.u1 p _ _ (fun h=>?_) (fun q hq hqn hU=>?_) (fun q v' hq hqn hU hsl hv w2 v2 Inb2 hC2 hS2 hcl co2 kp lm2=>?_) (fun q v' hq hqn hU hsl hv w2 Inb2 val err g cap hdn=>?_)
  ·exfalso;simp at h;omega
  ·obtain rfl:p=q:=by omega
   simp [setO] at hU
  ·obtain rfl:p=q:=by omega
   obtain rfl:=who v' hU hv
   have ci2:=ci1.goes hv hC2 co2 (ci1.co.nS co2 (kp _ ci1.co.bkMn).2) kp lm2
   have lx2:=lx1.goes kp
   have ly2:=ly1.goes kp
   have lk2:=fun k x h=>((lk k x h).grown (grown_at w d)).goes kp
   have hturn:v'.turn K1=run1 p (v'.S K1) K1:=by unfold Lv.turn;rw [hu,hCs]
   rw [hturn] at ci2 hS2
   rw [hu,hCg,upd_over] at ci2
   rw [hu,hCg,upd_over] at lx2 ly2
   rw [fin_at ho7,hd7]
   refine x_liv (en_more (by omega) (hA1.put (d:=28) (by decide) _) [] (fr::cs) fun a2 hA2=>fun d2=>.stop ?_)
   refine ih (j+1) (by omega) _ v2 _ _ a2 (hC2.trans hu) ?_ (ci2.grown (grown_at w2 d2)) (lx2.grown (grown_at w2 d2)) (ly2.grown (grown_at w2 d2)) (fun k x h=>?_) hA2
   ·rw [hS2];exact hAl2
   ·have:=lk2 k x h
    rw [hu,hCg,upd_over] at this
    exact this.grown (grown_at w2 d2)
  ·obtain rfl:p=q:=by omega
   obtain rfl:=who v' hU hv
   exfalso
   have hturn:v'.turn K1=run1 p (v'.S K1) K1:=by unfold Lv.turn;rw [hu,hCs]
   rw [hturn,hcall2] at hdn
   cases hdn
theorem main_ends (ci:CI w0 kb b n i l K (fun _=>none) r Inb nG w (fun _=>none) V N Xs)(hi:i≤4000000000000)(h01:w0.heap.size≤w.heap.size){p:Nat}(hp:p<n){kd A B v e:Int}{K':Ker}(h1:1≤kd)(h7:kd≤7){m:Nat}(hm:m<100)(hC:Comes p kd A B K (m+1) v e K')(fr:Frame)(cs:List Frame)
  (hx:∀ l' Inb' nG' w' V' N' Xs',(∀ r,CI w0 kb b n (i+1) l' K' (fun _=>none) r Inb' nG' w' (fun _=>none) V' N' Xs')→(∀ k x,Loc kb b n l (fun _=>none) w V k x→Loc kb b n l' (fun _=>none) w' V' k x)→X Tryd.prog Final l' Inb' nG' 0 (G (fr.finish (.tuple #[.agg #[.int .i64 kd,.int .i64 A,.int .i64 B,.int .i64 e,.int .i64 v],.bool true])) cs) w') :
  X Tryd.prog Final l Inb nG 0 (G (Frame.enter Tryd.prog 23 #[.pointer (some ⟨b.bl,0,none⟩),.int .i64 p,.agg #[.int .i64 kd,.int .i64 A,.int .i64 B]] .normal) (fr::cs)) w:=by
 obtain ⟨a,ha,hA⟩:=en_enter (.pointer (some ⟨b.bl,0,none⟩)) (.int .i64 p) (.agg #[.int .i64 kd,.int .i64 A,.int .i64 B])
 rw [ha]
 refine x_liv (en_a hA [] (fr::cs) fun a1 w1 hG hX hY hA1 d=>?_)
 have ci1:=(ci.any (m+1)).grown (hG.trans (grown_at w1 d))
 have lx:Loc kb b n l (fun _=>none) (w1.at d) V w.heap.size _:=loc_new ci.co ci.lm (Nat.le_refl _) hX
 have ly:Loc kb b n l (fun _=>none) (w1.at d) V (w.heap.size+1) _:=loc_new ci.co ci.lm (Nat.le_succ _) hY
 obtain ⟨o1,ho1,hd1⟩:∃ o,(enOps 1)[3]?=some o∧o.dst=some 17:=⟨_,rfl,rfl⟩
 refine main_Begin ci1.co ci1.hn ci1.lm ci1.g0 p kd A B _ _ (fun h=>?_) (fun _ _ h=>?_) (fun _ _ q o _ _ h=>?_) (fun _ _ q hq hqn hU w2 C H Inb2 c1 c2 c3 c4 c5 c6 c7 c8 c9=>?_)
 ·exfalso;omega
 ·exfalso;simp at h;omega
 ·cases h
 ·obtain rfl:p=q:=by omega
  have ci2:=ci1.begun hp rfl c6 c7 c8 c9
  have lx2:=lx.begun c8
  have ly2:=ly.begun c8
  rw [fin_at ho1,hd1]
  refine x_liv (en_b (hA1.put (d:=17) (by decide) _) [] (fr::cs) fun a2 hA2=>fun d2=>.stop ?_)
  refine en_loop (l:=l) (V:=V) hi w h01 hp C c1 c2 c3 c4 c6 w.heap.size (w.heap.size+1) (Nat.le_succ _) fr cs (fun Inb' w' V' N' Xs' hc hl=>hx _ _ _ _ _ _ _ hc hl) m 0 (by omega) K ⟨C,opStrat C p,[C.o.bo],H,[runFr C.o,bot]⟩ Inb2 (w2.at d2) a2 rfl ?_ (ci2.grown (grown_at w2 d2)) (lx2.grown (grown_at w2 d2)) (ly2.grown (grown_at w2 d2)) (fun k x h=>(((h.grown (hG.trans (grown_at w1 d))).begun c8).grown (grown_at w2 d2))) hA2
  show Alone p (opStrat C p K) K (m+1) _ K'
  unfold opStrat
  rw [c2,c3,c4]
  exact hC
end
end Go.Proofs.YtcgabodkegcpgaaDoor
