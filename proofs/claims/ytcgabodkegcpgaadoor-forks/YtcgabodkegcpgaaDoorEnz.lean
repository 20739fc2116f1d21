/- burrowlaw.ends in company, whole: with nobody else under way it tells what the operation comes to, played alone. -/
import Derived.Test.YtcgabodkegcpgaaDoorFfm
import Derived.Test.YtcgabodkegcpgaaDoorFka
import Derived.Test.YtcgabodkegcpgaaDoorCia
set_option linter.unusedVariables false
set_option linter.unusedSimpArgs false
set_option maxHeartbeats 20000000
set_option maxRecDepth 100000
namespace Go.Proofs.YtcgabodkegcpgaaDoor
open Go.Conc Go.RowKit
open Br (X OpD KO SO SP sfO Lk Fit Must DL Liv Clear)
theorem a7L {α:Type}(g:Nat)(x y:α):ConcN.upd (ConcN.upd (λ_=>x) g y) g x=λ_=>x:=by
 funext i
 by_cases e:i=g
 ·subst e;rw [ConcN.upd_same]
 ·rw [ConcN.upd_ne _ _ e,ConcN.upd_ne _ _ e]
theorem a5N {α:Type}(f:Nat->α)(g:Nat)(x y:α):ConcN.upd (ConcN.upd f g x) g y=ConcN.upd f g y:=by
 funext i
 by_cases e:i=g
 ·subst e;rw [ConcN.upd_same,ConcN.upd_same]
 ·rw [ConcN.upd_ne _ _ e,ConcN.upd_ne _ _ e,ConcN.upd_ne _ _ e]
theorem b3g (p:Nat)(o:OpD):a4W (a0W (λ_=>none) p o) p=λ_=>none:=by
 funext q;unfold a4W a0W
 by_cases e:q=p<;>simp [e]
theorem Alone.inv {slot:Int}{s s':q7}{K K':Ker}{m:Nat}(h:Alone slot s K (m+1) s' K'):∃ num a b c,s []=.call num a b c/\Alone slot (a0O slot s K).2 (a0O slot s K).1 m s' K':=by
 cases h with
 | call num a b c hc hn=>exact ⟨num,a,b,c,hc,by rw [a4Y hc];exact hn⟩
theorem Alone.first {slot:Int}{s s':q7}{K K':Ker}{m:Nat}(h:Alone slot s K (m+1) s' K'):∃ num a b c,s []=.call num a b c:=by
 obtain ⟨num,a,b,c,hc,_⟩:=h.inv;exact ⟨num,a,b,c,hc⟩
theorem Alone.zero {slot:Int}{s s':q7}{K K':Ker}(h:Alone slot s K 0 s' K'):s=s'/\K=K':=by
 cases h
 exact ⟨rfl,rfl⟩
section
variable {Final:Machine->Trace->Prop} {w0:World} {kb:Kb} {b:Lb} {n i:Nat} {l:List OpD} {K:Ker} {r:Nat} {Inb:Nat->Option Seat} {nG:Nat} {w:World} {V:Nat->Value} {N:Nat->Nat} {Xs:Nat->List Value}
theorem b8v (hi:i<=4000000000000)(w1:World)(h01:w0.heap.size<=w1.heap.size){p:Nat}(hp:p<n){kd A B v e:Int}{K':Ker}(C:Ctx)(hCs:C.slot=p)(hCk:C.kd=kd)(hCA:C.A=A)(hCB:C.B=B)(hCg:C.o.gid=nG)(bx y:Nat)(hy:w1.heap.size<=y)(fr:Frame)(cs:List Frame)
  (hx:∀ Inb' w' V' N' Xs',(∀ r,CI w0 kb b n (i+1) (C.o::l) K' (λ_=>none) r Inb' (nG+1) w' (λ_=>none) V' N' Xs')->(∀ k x,Loc kb b n l (λ_=>none) w1 V k x->Loc kb b n (C.o::l) (λ_=>none) w' V' k x)->X Tryd.prog Final (C.o::l) Inb' (nG+1) 0 (G (fr.finish (.tuple #[.agg #[.int .i64 kd,.int .i64 A,.int .i64 B,.int .i64 e,.int .i64 v],.bool true])) cs) w') :
  ∀ (m j:Nat),j+m<100->∀ (K1:Ker) (u:Lv) Inb w a,u.C=C->Alone p (u.S K1) K1 (m+1) (λ_=>.done v e) K'->CI w0 kb b n i (C.o::l) K1 (ConcN.upd (λ_=>none) nG (some u)) (m+1) Inb (nG+1) w (a0W (λ_=>none) p C.o) V N Xs ->
   Loc kb b n (C.o::l) (ConcN.upd (λ_=>none) nG (some u)) w V bx (.cells #[.int .i64 kd,.int .i64 A,.int .i64 B] 38 (0,0))->Loc kb b n (C.o::l) (ConcN.upd (λ_=>none) nG (some u)) w V y (.cells #[.int .i64 0,.int .i64 0,.int .i64 0,.int .i64 0,.int .i64 0] 70 (0,0)) ->
   (∀ k x,Loc kb b n l (λ_=>none) w1 V k x->Loc kb b n (C.o::l) (ConcN.upd (λ_=>none) nG (some u)) w V k x) ->
   Lvs 67 [(0,.pointer (some ⟨b.bl,0,none⟩)),(1,.int .i64 p),(5,.pointer (some ⟨bx,0,none⟩)),(6,.pointer (some ⟨y,0,none⟩)),(7,.bool false),(9,.int .i64 j)] a ->
   X Tryd.prog Final (C.o::l) Inb (nG+1) 0 (G ((base 23).at a (.code U6::.inLoop U6::.inBlock 0::.code (.seq (rn 15) .ret) :: [])) (fr::cs)) w:=by
 intro m
 induction m with
 | zero =>
  intro j hj K1 u Inb w a hu hAl ci lx ly lk hA;refine K6 (c1z (by omega) hA [] (fr::cs) λa1 hA1 d=>?_);have ci1:=ci.grown (s9 w d);have lx1:=lx.grown (s9 w d);have ly1:=ly.grown (s9 w d);obtain ⟨num,c1,c2,c3,hcall,hAl2⟩:=hAl.inv;obtain ⟨hs2,hK2⟩:=hAl2.zero;obtain ⟨o7,ho7,hd7⟩:∃ o,(G2 7)[2]?=some o/\o.dst=some 28:=⟨_,rfl,rfl⟩;have who:∀ (v':Lv),(a0W (λ_=>none) p C.o) p=some v'.C.o->ConcN.upd (λ_=>none) nG (some u) v'.C.o.gid=some v'->v'=u:=λv' h1 h2=>by
   simp only [a0W,if_true,Option.some.injEq] at h1;rw [← h1,hCg,ConcN.upd_same] at h2;exact (Option.some.inj h2).symm
  refine a6n ci1.co ci1.hn ci1.lm (λq hq=>by have:=ci1.nb q hq;omega) ci1.u1 p _ _ (λh=>?_) (λq hq hqn hU=>?_) (λq v' hq hqn hU hsl hv w2 v2 Inb2 hC2 hS2 hcl=>?_) (λq v' hq hqn hU hsl hv w2 Inb2 val err g cap hdn hg co2 hk lm2=>?_)
  ·exfalso;simp at h;omega
  ·obtain rfl:p=q:=by omega
   simp [a0W] at hU
  ·obtain rfl:p=q:=by omega
   obtain rfl:=who v' hU hv;exfalso;obtain ⟨n',a',b',c',hcl⟩:=hcl;have hturn:v'.turn K1=a0O p (v'.S K1) K1:=by unfold Lv.turn;rw [hu,hCs]
   rw [hturn,hs2] at hcl;cases hcl
  ·obtain rfl:p=q:=by omega
   obtain rfl:=who v' hU hv;have hturn:v'.turn K1=a0O p (v'.S K1) K1:=by unfold Lv.turn;rw [hu,hCs]
   rw [hturn] at hdn co2;rw [hs2] at hdn;obtain ⟨rfl,rfl⟩:v=val/\e=err:=by injection hdn with h1 h2;exact ⟨h1,h2⟩
   rw [hK2] at co2;have nx:¬ a6m b V p kb.bk:=λh=>by
    rcases h with h|h|h
    ·exact ci1.lm.m.mbu.bk h.symm
    ·exact ci1.lm.m.mbn.bk h.symm
    ·exact (ci1.lm.m.mls p hp _ h).bk rfl
   have ci2:=ci1.over hp hU hv co2 (ci1.co.nS co2 (hk _ ci1.co.bkMn nx).2) hk lm2;have lx2:=lx1.over (m:=N p+1) (cap:=cap) hp hg hk;have ly2:=ly1.over (m:=N p+1) (cap:=cap) hp hg hk;have lk2:∀ k x,Loc kb b n l (λ_=>none) w1 V k x->k≠y/\Loc kb b n (C.o::l) _ w2 (V0 V p (.slice (some ⟨g,0,none⟩) (N p+1) cap)) k x:=λk x h=>⟨by have:=h.lt;omega,((lk k x h).grown (s9 w d)).over (m:=N p+1) (cap:=cap) hp hg hk⟩
   rw [hu,hCk,hCA,hCB,hCg,a7L,b3g] at ci2;rw [hu,hCg,a7L] at lx2 ly2 lk2;rw [a0M ho7,hd7];have own:=(ci2.lm.m.is.own p hp);have hlen:(Xs p).length=N p*5:=(ci1.lm.m.is.own p hp).1;have hNp:=ci1.nb p hp;refine K6 (b8F (by omega) (hA1.put (d:=28) (by decide) _) [] (fr::cs) λa2 hA2=>?_);refine b8G (m:=N p) (kd:=kd) (A:=A) (B:=B) (er:=e) (va:=v) ci2.co.env.fit hA2 fr cs _ (by omega) (by omega) (λfr cs d=>?_) lx2.is ly2.is ly2.mw.sf (λw3 hz3 hk3=>λd3=>.stop ?_)
   ·refine (b3I ci2.co ci2.lm.m hp (by have:=ci2.nb p hp;omega) (λx hx=>by obtain ⟨z,rfl⟩:=ci2.ints p hp x hx;rfl) fr cs d).mono (λ_ _ _ h=>h) ?_;rintro g' w' ⟨x,rfl,hG,rfl,hrow⟩;simp only [V0,if_true] at hrow ⊢;refine ⟨_,rfl,hG,rfl,λj hj=>?_⟩;rw [hrow.cell (by omega),List.getD_eq_getElem?_getD,List.getElem?_append_right (by omega),hlen,Nat.add_sub_cancel_left];unfold ent;rcases (by omega:j=0\/j=1\/j=2\/j=3\/j=4) with rfl|rfl|rfl|rfl|rfl<;>rfl
   ·have ci3:=(ci2.wrote ly2 hz3 hk3 (by omega)).grown (s9 w3 d3);exact hx _ _ _ _ _ (λr=>ci3.any r) (λk x h=>((lk2 k x h).2.wrote hz3 hk3 (lk2 k x h).1).grown (s9 w3 d3))
 | succ m ih =>
  intro j hj K1 u Inb w a hu hAl ci lx ly lk hA;refine K6 (c1z (by omega) hA [] (fr::cs) λa1 hA1 d=>?_);have ci1:=ci.grown (s9 w d);have lx1:=lx.grown (s9 w d);have ly1:=ly.grown (s9 w d);obtain ⟨num,c1,c2,c3,hcall,hAl2⟩:=hAl.inv;obtain ⟨num2,d1,d2,d3,hcall2⟩:=hAl2.first;obtain ⟨o7,ho7,hd7⟩:∃ o,(G2 7)[2]?=some o/\o.dst=some 28:=⟨_,rfl,rfl⟩;have who:∀ (v':Lv),(a0W (λ_=>none) p C.o) p=some v'.C.o->ConcN.upd (λ_=>none) nG (some u) v'.C.o.gid=some v'->v'=u:=λv' h1 h2=>by
   simp only [a0W,if_true,Option.some.injEq] at h1;rw [← h1,hCg,ConcN.upd_same] at h2;exact (Option.some.inj h2).symm
  refine a6n ci1.co ci1.hn ci1.lm (λq hq=>by have:=ci1.nb q hq;omega) ci1.u1 p _ _ (λh=>?_) (λq hq hqn hU=>?_) (λq v' hq hqn hU hsl hv w2 v2 Inb2 hC2 hS2 hcl co2 kp lm2=>?_) (λq v' hq hqn hU hsl hv w2 Inb2 val err g cap hdn=>?_)
  ·exfalso;simp at h;omega
  ·obtain rfl:p=q:=by omega
   simp [a0W] at hU
  ·obtain rfl:p=q:=by omega
   obtain rfl:=who v' hU hv;have ci2:=ci1.goes hv hC2 co2 (ci1.co.nS co2 (kp _ ci1.co.bkMn).2) kp lm2;have lx2:=lx1.goes kp;have ly2:=ly1.goes kp;have lk2:=λk x h=>((lk k x h).grown (s9 w d)).goes kp;have hturn:v'.turn K1=a0O p (v'.S K1) K1:=by unfold Lv.turn;rw [hu,hCs]
   rw [hturn] at ci2 hS2;rw [hu,hCg,a5N] at ci2;rw [hu,hCg,a5N] at lx2 ly2;rw [a0M ho7,hd7];refine K6 (b8E (by omega) (hA1.put (d:=28) (by decide) _) [] (fr::cs) λa2 hA2=>λd2=>.stop ?_);refine ih (j+1) (by omega) _ v2 _ _ a2 (hC2.trans hu) ?_ (ci2.grown (s9 w2 d2)) (lx2.grown (s9 w2 d2)) (ly2.grown (s9 w2 d2)) (λk x h=>?_) hA2
   ·rw [hS2];exact hAl2
   ·have:=lk2 k x h;rw [hu,hCg,a5N] at this;exact this.grown (s9 w2 d2)
  ·obtain rfl:p=q:=by omega
   obtain rfl:=who v' hU hv;exfalso;have hturn:v'.turn K1=a0O p (v'.S K1) K1:=by unfold Lv.turn;rw [hu,hCs]
   rw [hturn,hcall2] at hdn;cases hdn
theorem W8 (ci:CI w0 kb b n i l K (λ_=>none) r Inb nG w (λ_=>none) V N Xs)(hi:i<=4000000000000)(h01:w0.heap.size<=w.heap.size){p:Nat}(hp:p<n){kd A B v e:Int}{K':Ker}(h1:1<=kd)(h7:kd<=7){m:Nat}(hm:m<100)(hC:T8 p kd A B K (m+1) v e K')(fr:Frame)(cs:List Frame)
  (hx:∀ l' Inb' nG' w' V' N' Xs',(∀ r,CI w0 kb b n (i+1) l' K' (λ_=>none) r Inb' nG' w' (λ_=>none) V' N' Xs')->(∀ k x,Loc kb b n l (λ_=>none) w V k x->Loc kb b n l' (λ_=>none) w' V' k x)->X Tryd.prog Final l' Inb' nG' 0 (G (fr.finish (.tuple #[.agg #[.int .i64 kd,.int .i64 A,.int .i64 B,.int .i64 e,.int .i64 v],.bool true])) cs) w') :
  X Tryd.prog Final l Inb nG 0 (G (Frame.enter Tryd.prog 23 #[.pointer (some ⟨b.bl,0,none⟩),.int .i64 p,.agg #[.int .i64 kd,.int .i64 A,.int .i64 B]] .normal) (fr::cs)) w:=by
 obtain ⟨a,ha,hA⟩:=b5F (.pointer (some ⟨b.bl,0,none⟩)) (.int .i64 p) (.agg #[.int .i64 kd,.int .i64 A,.int .i64 B]);rw [ha];refine K6 (c1Z hA [] (fr::cs) λa1 w1 hG hX hY hA1 d=>?_);have ci1:=(ci.any (m+1)).grown (hG.trans (s9 w1 d));have lx:Loc kb b n l (λ_=>none) (w1.at d) V w.heap.size _:=a0Z ci.co ci.lm (Nat.le_refl _) hX;have ly:Loc kb b n l (λ_=>none) (w1.at d) V (w.heap.size+1) _:=a0Z ci.co ci.lm (Nat.le_succ _) hY;obtain ⟨o1,ho1,hd1⟩:∃ o,(G2 1)[3]?=some o/\o.dst=some 17:=⟨_,rfl,rfl⟩;refine b1i ci1.co ci1.hn ci1.lm ci1.g0 p kd A B _ _ (λh=>?_) (λ_ _ h=>?_) (λ_ _ q o _ _ h=>?_) (λ_ _ q hq hqn hU w2 C H Inb2 c1 c2 c3 c4 c5 c6 c7 c8 c9=>?_)
 ·exfalso;omega
 ·exfalso;simp at h;omega
 ·cases h
 ·obtain rfl:p=q:=by omega
  have ci2:=ci1.begun hp rfl c6 c7 c8 c9;have lx2:=lx.begun c8;have ly2:=ly.begun c8;rw [a0M ho1,hd1];refine K6 (c2a (hA1.put (d:=17) (by decide) _) [] (fr::cs) λa2 hA2=>λd2=>.stop ?_);refine b8v (l:=l) (V:=V) hi w h01 hp C c1 c2 c3 c4 c6 w.heap.size (w.heap.size+1) (Nat.le_succ _) fr cs (λInb' w' V' N' Xs' hc hl=>hx _ _ _ _ _ _ _ hc hl) m 0 (by omega) K ⟨C,A8 C p,[C.o.bo],H,[H6 C.o,bot]⟩ Inb2 (w2.at d2) a2 rfl ?_ (ci2.grown (s9 w2 d2)) (lx2.grown (s9 w2 d2)) (ly2.grown (s9 w2 d2)) (λk x h=>(((h.grown (hG.trans (s9 w1 d))).begun c8).grown (s9 w2 d2))) hA2;show Alone p (A8 C p K) K (m+1) _ K';unfold A8;rw [c2,c3,c4];exact hC
end
end Go.Proofs.YtcgabodkegcpgaaDoor
namespace Go.Proofs.YtcgabodkegcpgaaDoor
theorem a5O (xs:List Int){i j:Nat}(hi:i<xs.length)(hj:j<xs.length):(J0 xs i j).Perm xs:=by
 unfold J0;rw [List.getD_eq_getElem?_getD,List.getD_eq_getElem?_getD,List.getElem?_eq_getElem hi,List.getElem?_eq_getElem hj];exact List.set_set_perm hi hj
theorem b5B (xs:List Int){i j k:Nat}(h1:k≠i)(h2:k≠j):(J0 xs i j)[k]?=xs[k]?:=by
 unfold J0;rw [List.getElem?_set_ne (Ne.symm h2),List.getElem?_set_ne (Ne.symm h1)]
theorem a5P:∀ (f:Nat) (xs:List Int) (i n:Nat),n<=xs.length->i<n\/n=0->(K7 f xs i n).Perm xs/\∀ k,n<=k->(K7 f xs i n)[k]?=xs[k]?
 | 0,xs,i,n,_,_=>⟨.refl _,λ_ _=>rfl⟩
 | f+1,xs,i,n,hn,hi=>by
  unfold K7
  by_cases h1:n<=2*i+1
  ·rw [if_pos h1];exact ⟨.refl _,λ_ _=>rfl⟩
  rw [if_neg h1];generalize hj:(if 2*i+2<n/\xs.getD (2*i+2) 0<xs.getD (2*i+1) 0 then 2*i+2 else 2*i+1)=j;have hjn:j<n/\j≠i:=by
   rw [← hj];split
   ·rename_i h;omega
   ·omega
  simp only
  by_cases h2:xs.getD j 0<xs.getD i 0
  ·rw [if_pos h2];obtain ⟨p1,p2⟩:=a5P f (J0 xs i j) j n (by rw [a1w];exact hn) (.inl hjn.1);refine ⟨p1.trans (a5O xs (by omega) (by omega)),λk hk=>?_⟩;rw [p2 k hk];exact b5B xs (by omega) (by omega)
  ·rw [if_neg h2];exact ⟨.refl _,λ_ _=>rfl⟩
theorem W9 (x:Int)(r:List Int):(K8 (x::r)).Perm r:=by
 have hl:(x::r).length - 1=r.length:=by simp
 unfold K8;rw [hl];have s0:(J0 (x::r) 0 r.length).length=r.length+1:=by rw [a1w];rfl
 obtain ⟨p1,p2⟩:=a5P (x::r).length (J0 (x::r) 0 r.length) 0 r.length (by omega) (by omega);have p3:=p1.trans (a5O (x::r) (i:=0) (j:=r.length) (by simp) (by simp));have hlast:(K7 (x::r).length (J0 (x::r) 0 r.length) 0 r.length)[r.length]?=some x:=by
  rw [p2 _ (Nat.le_refl _)];unfold J0;rw [List.getElem?_set_self (by simp)];rfl
 generalize K7 (x::r).length (J0 (x::r) 0 r.length) 0 r.length=zs at *;have hz:zs.length=r.length+1:=by have:=p3.length_eq;simpa using this
 have e:zs=zs.take r.length ++ [x]:=by
  apply List.ext_getElem?;intro k;rcases Nat.lt_trichotomy k r.length with h|h|h
  ·rw [List.getElem?_append_left (by rw [List.length_take];omega),List.getElem?_take,if_pos h]
  ·subst h;rw [hlast,List.getElem?_append_right (by rw [List.length_take];omega),List.length_take];simp [hz]
  ·rw [List.getElem?_eq_none (by omega),List.getElem?_eq_none (by simp;omega)]
 have p4:(x::zs.take r.length).Perm (x::r):=by
  refine (List.perm_append_singleton x _).symm.trans ?_;rw [← e];exact p3
 exact p4.cons_inv
theorem M6 {K:Ker}{slot call:Nat}{a b c:Int}(h1:0<call)(h2:call<20)(h3:slot<K.nS)(h4:K.S slot 0=2)(h5:y9 K ((i9 call).getD 0 0) a=true)(h6:y9 K ((i9 call).getD 1 0) b=true)(h7:y9 K ((i9 call).getD 2 0) c=true):o8 K slot call a b c=kDo K slot call a b c:=by
 unfold o8;rw [if_neg (by omega),if_neg (by simp only [Int.toNat_natCast];omega),if_neg (by simp only [Int.toNat_natCast,h5,h6,h7];simp)];simp only [Int.toNat_natCast]
theorem C9 {K:Ker}{t:Int}{n:Nat}(h:(n:Int)<q9 K t):y9 K t n=true:=by
 unfold y9;simp only [Bool.or_eq_true,Bool.and_eq_true,decide_eq_true_eq];exact .inr ⟨by omega,h⟩
section
variable {K K':Ker} {t:Nat} {fr:Nat->Int} {gv:Nat->Bool} {kd cd:Int}
theorem Kid.me (S:Sole K)(C:Kid K t fr gv kd cd K'):0<K'.nS/\K'.S 0 0=2:=⟨by rw [C.nS];exact S.pos,by rw [C.so 0 (by omega)];exact S.rdy⟩
theorem Kid.yield (S:Sole K)(C:Kid K t fr gv kd cd K'):o8 K' 0 1 0 0 0=⟨K',0,0⟩:=M6 (slot:=0) (call:=1) (by decide) (by decide) (C.me S).1 (C.me S).2 rfl rfl rfl
structure Fre (K:Ker) (t:Nat) (fr:Nat->Int) (xs:List Int):Prop where
 has:∀ y∈xs,∃ f:Nat,y=f/\f<K.nF/\K.F f 0=0/\f≠t/\∀ q,q<4->fr q≠(f:Int)
 nd:xs.Nodup
theorem Fre.pop {x:Int}{r:List Int}{p f:Nat}(h:Fre K t fr (x::r))(hx:x=f):Fre K t (λq=>if q=p then (f:Int) else fr q) (K8 (x::r)):=by
 have pr:=W9 x r;refine ⟨λy hy=>?_,pr.nodup_iff.2 (List.nodup_cons.1 h.nd).2⟩;have hy':y∈r:=pr.mem_iff.1 hy;obtain ⟨g,e1,e2,e3,e4,e5⟩:=h.has y (List.mem_cons_of_mem _ hy');refine ⟨g,e1,e2,e3,e4,λq hq=>?_⟩;show (if q=p then (f:Int) else fr q)≠(g:Int)
 by_cases e:q=p
 ·rw [if_pos e];intro e';exact (List.nodup_cons.1 h.nd).1 (by rw [hx,e',← e1];exact hy')
 ·rw [if_neg e];exact e5 q hq
theorem a9w (S:Sole K)(h2:2<=K.nS):∀ (ps:List Nat) (i:Nat) (xs:List Int) (fr:Nat->Int) (K':Ker),Kid K t fr gv 1 cd K'->ps.Nodup->(∀ p∈ps,p<4/\fr p=-1/\K.page 0 p≠-1)->Fre K t fr xs->ps.length<=xs.length ->
  ∃ fr' K'' xs',Kid K t fr' gv 1 cd K''/\(∀ q,q<4->(fr' q≠-1↔fr q≠-1\/q∈ps))/\∀ (k:(Nat × Int) × List Int->Bool->q7) (n:Nat) (s':q7) (K2:Ker),Alone 0 (k ((i+ps.length,0),xs') false) K'' n s' K2->Alone 0 ((a0g 1 (ps.map Int.ofNat) i xs).then false k) K' (n+ps.length) s' K2
 | [],i,xs,fr,K',C,_,_,_,_=>⟨fr,K',xs,C,λq _=>by simp,λk n s' K2 h=>h⟩
 | p::ps,i,[],fr,K',C,_,_,_,hl=>by simp at hl
 | p::ps,i,x::r,fr,K',C,hnd,hp,hF,hl=>by
  obtain ⟨hp4,hp0,hpk⟩:=hp p (List.mem_cons_self ..);obtain ⟨f,hx,f1,f2,f3,f4⟩:=hF.has x (List.mem_cons_self ..);obtain ⟨K1,hc,C1⟩:=a9G S C hp4 hp0 hpk f1 f2 f3 f4;have hcall:o8 K' 0 6 1 (Int.ofNat p) x=⟨K1,0,0⟩:=by
   rw [← hc,hx];exact M6 (slot:=0) (call:=6) (a:=(1:Nat)) (b:=(p:Int)) (c:=(f:Int)) (by decide) (by decide) (C.me S).1 (C.me S).2 (C9 (by show ((1:Nat):Int)<K'.nS;rw [C.nS];omega)) (C9 (by show (p:Int)<4;omega)) (C9 (by show (f:Int)<K'.nF;rw [C.nF];omega))
  have pr:=W9 x r
  obtain ⟨fr',K'',xs',C'',hq,hrun⟩:=a9w S h2 ps (i+1) (K8 (x::r)) _ K1 C1 (List.nodup_cons.1 hnd).2 (λq hq=>by
   obtain ⟨q4,q0,qk⟩:=hp q (List.mem_cons_of_mem _ hq);refine ⟨q4,?_,qk⟩;show (if q=p then (f:Int) else fr q)=-1
   rw [if_neg (show ¬ q=p from λe=>(List.nodup_cons.1 hnd).1 (by rw [← e];exact hq))];exact q0) (hF.pop hx) (by rw [pr.length_eq];simp at hl;omega)
  refine ⟨fr',K'',xs',C'',λq hq4=>?_,λk n s' K2 h=>?_⟩
  ·rw [hq q hq4];show ((if q=p then (f:Int) else fr q)≠-1\/q∈ps)↔_
   by_cases e:q=p
   ·subst e;rw [if_pos rfl];simp
   ·rw [if_neg e];simp [e]
  ·rw [show n+(p::ps).length=(n+ps.length)+1 by simp;omega];show Alone 0 ((a0g 1 (Int.ofNat p::ps.map Int.ofNat) i (x::r)).then false k) K' _ s' K2;unfold a0g;rw [M.bind_then];refine a5h (f:=r.length) (K1:=K1) (v:=0) hcall ?_;show Alone 0 ((if (0:Int)=0 then a0g 1 (ps.map Int.ofNat) (i+1) (K8 (x::r)) else _).then false k) K1 _ s' K2;rw [if_pos rfl];refine hrun k n s' K2 ?_;rw [show i+1+ps.length=i+(p::ps).length by simp;omega];exact h
theorem a9x (S:Sole K)(h2:2<=K.nS):∀ (ps:List Nat) (i:Nat) (xs:List Int) (fr:Nat->Int) (K':Ker),Kid K t fr gv 1 cd K'->ps.Nodup->(∀ p∈ps,p<4/\fr p=-1/\K.page 0 p≠-1)->Fre K t fr xs->xs.length<ps.length ->
  ∃ fr' K'' xs',Kid K t fr' gv 1 cd K''/\(∀ q,q<4->(fr' q≠-1↔fr q≠-1\/q∈ps.take xs.length))/\∀ (k:(Nat × Int) × List Int->Bool->q7) (n:Nat) (s':q7) (K2:Ker),Alone 0 (k ((i+xs.length,10),xs') false) K'' n s' K2->Alone 0 ((a0g 1 (ps.map Int.ofNat) i xs).then false k) K' (n+xs.length+1) s' K2
 | [],i,xs,fr,K',C,_,_,_,hl=>by simp at hl
 | p::ps,i,[],fr,K',C,_,_,_,_=>⟨fr,K',[],C,λq _=>by simp,λk n s' K2 h=>by
   show Alone 0 ((a0g 1 (Int.ofNat p::ps.map Int.ofNat) i []).then false k) K' (n+1) s' K2;unfold a0g;rw [M.bind_then];show Alone 0 ((((T0 10).bind λe=>M.pure (e,([]:List Int))):M (Int × List Int)).then false _) K' (n+1) s' K2;rw [M.bind_then];refine a0Y (C.yield S) ?_
   exact h⟩
 | p::ps,i,x::r,fr,K',C,hnd,hp,hF,hl=>by
  obtain ⟨hp4,hp0,hpk⟩:=hp p (List.mem_cons_self ..);obtain ⟨f,hx,f1,f2,f3,f4⟩:=hF.has x (List.mem_cons_self ..);obtain ⟨K1,hc,C1⟩:=a9G S C hp4 hp0 hpk f1 f2 f3 f4;have hcall:o8 K' 0 6 1 (Int.ofNat p) x=⟨K1,0,0⟩:=by
   rw [← hc,hx];exact M6 (slot:=0) (call:=6) (a:=(1:Nat)) (b:=(p:Int)) (c:=(f:Int)) (by decide) (by decide) (C.me S).1 (C.me S).2 (C9 (by show ((1:Nat):Int)<K'.nS;rw [C.nS];omega)) (C9 (by show (p:Int)<4;omega)) (C9 (by show (f:Int)<K'.nF;rw [C.nF];omega))
  have pr:=W9 x r
  obtain ⟨fr',K'',xs',C'',hq,hrun⟩:=a9x S h2 ps (i+1) (K8 (x::r)) _ K1 C1 (List.nodup_cons.1 hnd).2 (λq hq=>by
   obtain ⟨q4,q0,qk⟩:=hp q (List.mem_cons_of_mem _ hq);refine ⟨q4,?_,qk⟩;show (if q=p then (f:Int) else fr q)=-1
   rw [if_neg (show ¬ q=p from λe=>(List.nodup_cons.1 hnd).1 (by rw [← e];exact hq))];exact q0) (hF.pop hx) (by rw [pr.length_eq];simp at hl;omega)
  rw [pr.length_eq] at hq hrun;refine ⟨fr',K'',xs',C'',λq hq4=>?_,λk n s' K2 h=>?_⟩
  ·rw [hq q hq4];show ((if q=p then (f:Int) else fr q)≠-1\/q∈ps.take r.length)↔_
   by_cases e:q=p
   ·subst e;rw [if_pos rfl];simp
   ·rw [if_neg e];simp [e]
  ·rw [show n+(x::r).length+1=(n+r.length+1)+1 by simp;omega];show Alone 0 ((a0g 1 (Int.ofNat p::ps.map Int.ofNat) i (x::r)).then false k) K' _ s' K2;unfold a0g;rw [M.bind_then];refine a5h (f:=r.length) (K1:=K1) (v:=0) hcall ?_;show Alone 0 ((if (0:Int)=0 then a0g 1 (ps.map Int.ofNat) (i+1) (K8 (x::r)) else _).then false k) K1 _ s' K2;rw [if_pos rfl];refine hrun k n s' K2 ?_;rw [show i+1+r.length=i+(x::r).length by simp;omega];exact h
theorem a9y (S:Sole K)(h2:2<=K.nS):∀ (fs:List Nat) (i:Nat) (gv:Nat->Bool) (K':Ker),Kid K t fr gv 1 cd K'->fs.Nodup->(∀ x∈fs,x<4/\gv x=false/\K.file 0 x≠-1) ->
  ∃ gv' K'',Kid K t fr gv' 1 cd K''/\(∀ q,q<4->(gv' q=true↔gv q=true\/q∈fs))/\∀ (k:Nat × Int->Bool->q7) (n:Nat) (s':q7) (K2:Ker),Alone 0 (k (i+fs.length,0) false) K'' n s' K2->Alone 0 ((a3e 1 (fs.map Int.ofNat) i).then false k) K' (n+fs.length) s' K2
 | [],i,gv,K',C,_,_=>⟨gv,K',C,λq _=>by simp,λk n s' K2 h=>h⟩
 | x::fs,i,gv,K',C,hnd,hp=>by
  obtain ⟨hx4,hx0,hxk⟩:=hp x (List.mem_cons_self ..);obtain ⟨K1,hc,C1⟩:=b5I S C hx4 hx0 hxk;have hcall:o8 K' 0 7 1 (Int.ofNat x) (Int.ofNat x)=⟨K1,0,0⟩:=by
   rw [← hc];exact M6 (slot:=0) (call:=7) (a:=(1:Nat)) (b:=(x:Int)) (c:=(x:Int)) (by decide) (by decide) (C.me S).1 (C.me S).2 (C9 (by show ((1:Nat):Int)<K'.nS;rw [C.nS];omega)) (C9 (by show (x:Int)<4;omega)) (C9 (by show (x:Int)<4;omega))
  obtain ⟨gv',K'',C'',hq,hrun⟩:=a9y S h2 fs (i+1) _ K1 C1 (List.nodup_cons.1 hnd).2 (λq hq=>by
   obtain ⟨q4,q0,qk⟩:=hp q (List.mem_cons_of_mem _ hq);refine ⟨q4,?_,qk⟩;show (if q=x then true else gv q)=false
   rw [if_neg (show ¬ q=x from λe=>(List.nodup_cons.1 hnd).1 (by rw [← e];exact hq))];exact q0)
  refine ⟨gv',K'',C'',λq hq4=>?_,λk n s' K2 h=>?_⟩
  ·rw [hq q hq4];show ((if q=x then true else gv q)=true\/q∈fs)↔_
   by_cases e:q=x
   ·subst e;rw [if_pos rfl];simp
   ·rw [if_neg e];simp [e]
  ·rw [show n+(x::fs).length=(n+fs.length)+1 by simp;omega];show Alone 0 ((a3e 1 (Int.ofNat x::fs.map Int.ofNat) i).then false k) K' _ s' K2;unfold a3e;rw [M.bind_then];refine J3 hcall ?_;show Alone 0 ((if (0:Int)=0 then a3e 1 (fs.map Int.ofNat) (i+1) else _).then false k) K1 _ s' K2;rw [if_pos rfl];refine hrun k n s' K2 ?_;rw [show i+1+fs.length=i+(x::fs).length by simp;omega];exact h
theorem a5Q (S:Sole K)(h2:2<=K.nS)(hkd:kd=1\/kd=3):∀ (ps:List Nat) (fr:Nat->Int) (K':Ker),Kid K t fr gv kd cd K'->ps.Nodup->(∀ p∈ps,p<4/\fr p≠-1) ->
  ∃ fr' K'',Kid K t fr' gv kd cd K''/\(∀ q,q<4->(fr' q≠-1↔fr q≠-1/\q ∉ ps))/\∀ (k:Unit->Bool->q7) (n:Nat) (s':q7) (K2:Ker),Alone 0 (k () false) K'' n s' K2->Alone 0 ((a0f 10 1 (ps.map Int.ofNat)).then false k) K' (n+ps.length) s' K2
 | [],fr,K',C,_,_=>⟨fr,K',C,λq _=>by simp,λk n s' K2 h=>h⟩
 | p::ps,fr,K',C,hnd,hp=>by
  obtain ⟨hp4,hp0⟩:=hp p (List.mem_cons_self ..);obtain ⟨K1,hc,C1⟩:=b5L S C hkd hp4 hp0;have hcall:o8 K' 0 10 1 (Int.ofNat p) 0=⟨K1,0,0⟩:=by
   rw [← hc];exact M6 (slot:=0) (call:=10) (a:=(1:Nat)) (b:=(p:Int)) (c:=0) (by decide) (by decide) (C.me S).1 (C.me S).2 (C9 (by show ((1:Nat):Int)<K'.nS;rw [C.nS];omega)) (C9 (by show (p:Int)<4;omega)) rfl
  obtain ⟨fr',K'',C'',hq,hrun⟩:=a5Q S h2 hkd ps _ K1 C1 (List.nodup_cons.1 hnd).2 (λq hq=>by
   obtain ⟨q4,q0⟩:=hp q (List.mem_cons_of_mem _ hq);refine ⟨q4,?_⟩;show (if q=p then (-1:Int) else fr q)≠-1
   rw [if_neg (show ¬ q=p from λe=>(List.nodup_cons.1 hnd).1 (by rw [← e];exact hq))];exact q0)
  refine ⟨fr',K'',C'',λq hq4=>?_,λk n s' K2 h=>?_⟩
  ·rw [hq q hq4];show ((if q=p then (-1:Int) else fr q)≠-1/\q ∉ ps)↔_
   by_cases e:q=p
   ·subst e;rw [if_pos rfl];simp
   ·rw [if_neg e];simp [e]
  ·rw [show n+(p::ps).length=(n+ps.length)+1 by simp;omega];show Alone 0 ((a0f 10 1 (Int.ofNat p::ps.map Int.ofNat)).then false k) K' _ s' K2;unfold a0f;rw [M.bind_then];refine J3 hcall ?_;exact hrun k n s' K2 h
theorem a9z (S:Sole K)(h2:2<=K.nS)(hkd:kd=1\/kd=3)(hpos:∀ d,d<K.nD->0<=K.D d 0->0<K.D d 3+K.D d 4):∀ (fs:List Nat) (gv:Nat->Bool) (K':Ker),Kid K t fr gv kd cd K'->fs.Nodup->(∀ x∈fs,x<4/\gv x=true) ->
  ∃ gv' K'',Kid K t fr gv' kd cd K''/\(∀ q,q<4->(gv' q=true↔gv q=true/\q ∉ fs))/\∀ (k:Unit->Bool->q7) (n:Nat) (s':q7) (K2:Ker),Alone 0 (k () false) K'' n s' K2->Alone 0 ((a0f 11 1 (fs.map Int.ofNat)).then false k) K' (n+fs.length) s' K2
 | [],gv,K',C,_,_=>⟨gv,K',C,λq _=>by simp,λk n s' K2 h=>h⟩
 | x::fs,gv,K',C,hnd,hp=>by
  obtain ⟨hx4,hx0⟩:=hp x (List.mem_cons_self ..);obtain ⟨K1,hc,C1⟩:=b5M S C hkd hx4 hx0 hpos;have hcall:o8 K' 0 11 1 (Int.ofNat x) 0=⟨K1,0,0⟩:=by
   rw [← hc];exact M6 (slot:=0) (call:=11) (a:=(1:Nat)) (b:=(x:Int)) (c:=0) (by decide) (by decide) (C.me S).1 (C.me S).2 (C9 (by show ((1:Nat):Int)<K'.nS;rw [C.nS];omega)) (C9 (by show (x:Int)<4;omega)) rfl
  obtain ⟨gv',K'',C'',hq,hrun⟩:=a9z S h2 hkd hpos fs _ K1 C1 (List.nodup_cons.1 hnd).2 (λq hq=>by
   obtain ⟨q4,q0⟩:=hp q (List.mem_cons_of_mem _ hq);refine ⟨q4,?_⟩;show (if q=x then false else gv q)=true
   rw [if_neg (show ¬ q=x from λe=>(List.nodup_cons.1 hnd).1 (by rw [← e];exact hq))];exact q0)
  refine ⟨gv',K'',C'',λq hq4=>?_,λk n s' K2 h=>?_⟩
  ·rw [hq q hq4];show ((if q=x then false else gv q)=true/\q ∉ fs)↔_
   by_cases e:q=x
   ·subst e;rw [if_pos rfl];simp
   ·rw [if_neg e];simp [e]
  ·rw [show n+(x::fs).length=(n+fs.length)+1 by simp;omega];show Alone 0 ((a0f 11 1 (Int.ofNat x::fs.map Int.ofNat)).then false k) K' _ s' K2;unfold a0f;rw [M.bind_then];refine J3 hcall ?_;exact hrun k n s' K2 h
end
def a2a (f:Nat->Int):List Nat:=(List.range 4).filter λj=>f j != -1
theorem a1r (f:Nat->Int):(a2a f).Nodup:=List.Pairwise.filter _ List.nodup_range
theorem a7M (f:Nat->Int)(q:Nat):q∈a2a f↔q<4/\f q≠-1:=by
 unfold a2a;rw [List.mem_filter,List.mem_range];simp
theorem a5R (f:Nat->Int):(a2a f).length<=4:=by
 unfold a2a;exact Nat.le_trans (List.length_filter_le _ _) (by simp)
theorem a9A {f g:Nat->Int}(h:∀ q,q<4->(f q≠-1↔g q≠-1)):a2a f=a2a g:=by
 unfold a2a;refine List.filter_congr λq hq=>?_;have:=h q (List.mem_range.1 hq)
 by_cases e:f q=-1
 ·have e2:g q=-1:=Classical.byContradiction λn=>(this.2 n) e;show (f q != -1)=(g q != -1);rw [e,e2]
 ·have e2:=this.1 e;show (f q != -1)=(g q != -1);rw [show (f q != -1)=true by simpa using e,show (g q != -1)=true by simpa using e2]
def pgs (K:Ker)(p:Nat):List Nat:=a2a λj=>K.S p (3+j*2)
def fls (K:Ker)(p:Nat):List Nat:=a2a λj=>K.S p (11+j*2)
theorem a4M (K:Ker)(p:Nat):a1j K p=(pgs K p).map Int.ofNat:=rfl
theorem a7N (K:Ker)(p:Nat):a0Q K p=(fls K p).map Int.ofNat:=rfl
theorem Y8 (K:Ker)(p q:Nat):q∈pgs K p↔q<4/\K.page p q≠-1:=a7M _ q
theorem a5C (K:Ker)(p q:Nat):q∈fls K p↔q<4/\K.file p q≠-1:=a7M _ q
theorem a3K (K:Ker):∀ y∈D5 K K.nF,∃ f:Nat,y=f/\f<K.nF/\K.F f 0=0:=λy hy=>by
 unfold D5 at hy;obtain ⟨j,hj,rfl⟩:=List.mem_map.1 hy;obtain ⟨h1,h2⟩:=List.mem_filter.1 hj;exact ⟨j,rfl,List.mem_range.1 h1,by simpa using h2⟩
theorem b8w (K:Ker):(D5 K K.nF).Nodup:=by
 unfold D5;refine List.Pairwise.map _ (λa b h e=>h (by exact Int.ofNat.inj e)) (List.Pairwise.filter _ List.nodup_range)
section
variable {K:Ker}
theorem Sole.yield (S:Sole K):o8 K 0 1 0 0 0=⟨K,0,0⟩:=M6 (slot:=0) (call:=1) (by decide) (by decide) S.pos S.rdy rfl rfl rfl
theorem Sole.ends (S:Sole K):∀ d,d<K.nD->0<=K.D d 0->0<K.D d 3+K.D d 4:=λd hd h0=>by
 have h1:=S.inv.ended.h d hd h0;have h2:=(S.inv.good.rd d hd).1;have h3:=(S.inv.good.wt d hd).1;omega
theorem a7O (S:Sole K)(h:K.nS<2\/D5 K K.nF=[]):T8 0 1 0 0 K 1 0 10 K:=by
 have hp:=S.pos;unfold T8 N3;rw [if_pos rfl];unfold b0v;rw [M.bind_then];obtain ⟨m,hm⟩:∃ m,K.nS=m+1:=⟨K.nS - 1,by omega⟩;rw [hm];unfold a0n;rw [if_neg (by rw [S.rdy];decide)]
 cases m with
 | zero =>
  unfold a0n;rw [M.bind_then];refine a0Y S.yield ?_;exact .nil _ _
 | succ m =>
  have hx:=h.resolve_left (by omega);rw [hx];unfold a0n;rw [if_pos (S.non 1 (Nat.le_refl _) (by omega)),M.bind_then];show Alone 0 ((((T0 10).bind λe=>M.pure (e,([]:List Int))):M (Int × List Int)).then false _) K 1 _ K;rw [M.bind_then];refine a0Y S.yield ?_;exact .nil _ _
theorem a7P (S:Sole K)(h2:2<=K.nS){x:Int}{r:List Int}(hx:D5 K K.nF=x::r):∃ f K1,Kid K f (λ_=>-1) (λ_=>false) 1 0 K1/\Fre K f (λ_=>-1) (K8 (x::r)) /\
  ∀ n s' K2,Alone 0 ((a0g 1 (a1j K 0) 0 (K8 (x::r))).then false (λy go=>(a6O 1 ((a1j K 0).take y.1.1) (a0Q K 0) y.1.2).then go (λz _=>λ_=>.done z.1 z.2))) K1 n s' K2 ->
   Alone 0 ((N3 K 0 1 0 0).then false (λz _=>λ_=>.done z.1 z.2)) K (n+1) s' K2:=by
 obtain ⟨f,e1,e2,e3⟩:=a3K K x (by rw [hx];exact List.mem_cons_self ..);obtain ⟨K1,hc,C⟩:=b3j S h2 e2 e3;have nd:=b8w K;rw [hx] at nd;refine ⟨f,K1,C,⟨λy hy=>?_,(W9 x r).nodup_iff.2 (List.nodup_cons.1 nd).2⟩,λn s' K2 h=>?_⟩
 ·have hy':y∈r:=(W9 x r).mem_iff.1 hy;obtain ⟨g,g1,g2,g3⟩:=a3K K y (by rw [hx];exact List.mem_cons_of_mem _ hy');refine ⟨g,g1,g2,g3,λe=>(List.nodup_cons.1 nd).1 (by rw [e1,← e,← g1];exact hy'),λq hq=>by omega⟩
 ·have hcall:o8 K 0 5 1 x 0=⟨K1,0,0⟩:=by
   rw [← hc,e1];exact M6 (slot:=0) (call:=5) (a:=(1:Nat)) (b:=(f:Int)) (c:=0) (by decide) (by decide) S.pos S.rdy (C9 (by show ((1:Nat):Int)<K.nS;omega)) (C9 (by show (f:Int)<K.nF;omega)) rfl
  unfold N3;rw [if_pos rfl];unfold b0v;rw [M.bind_then];obtain ⟨m,hm⟩:∃ m,K.nS=m+2:=⟨K.nS - 2,by omega⟩;rw [hm];unfold a0n;rw [if_neg (by rw [S.rdy];decide)];unfold a0n;rw [if_pos (S.non 1 (Nat.le_refl _) (by omega)),M.bind_then,hx];refine a1Z (f:=r.length) (K1:=K1) (v:=0) hcall ?_;rw [if_neg (show ¬ (0:Int)=7 by decide),M.pure_then,if_pos rfl,M.bind_then];exact h
theorem b8x (S:Sole K)(h2:2<=K.nS){x:Int}{r:List Int}(hx:D5 K K.nF=x::r)(hl:(pgs K 0).length<=r.length) :
  ∃ f fr gv K',Kid K f fr gv 2 0 K'/\(∀ q,q<4->(fr q≠-1↔K.page 0 q≠-1))/\(∀ q,q<4->(gv q=true↔K.file 0 q≠-1))/\T8 0 1 0 0 K ((pgs K 0).length+(fls K 0).length+1+1) 1 0 K':=by
 obtain ⟨f,K1,C1,hF,a0O⟩:=a7P S h2 hx;obtain ⟨fr,K2,xs,C2,hfr,run2⟩:=a9w S h2 (pgs K 0) 0 (K8 (x::r)) _ K1 C1 (a1r _) (λp hp=>⟨((Y8 K 0 p).1 hp).1,rfl,((Y8 K 0 p).1 hp).2⟩) hF (by rw [(W9 x r).length_eq];exact hl);obtain ⟨gv,K3,C3,hgv,run3⟩:=a9y S h2 (fls K 0) 0 _ K2 C2 (a1r _) (λp hp=>⟨((a5C K 0 p).1 hp).1,rfl,((a5C K 0 p).1 hp).2⟩);obtain ⟨K4,hc,C4⟩:=b3k C3;have hcall:o8 K3 0 8 1 0 0=⟨K4,0,0⟩:=by
  rw [← hc];exact M6 (slot:=0) (call:=8) (a:=(1:Nat)) (b:=0) (c:=0) (by decide) (by decide) (C3.me S).1 (C3.me S).2 (C9 (by show ((1:Nat):Int)<K3.nS;rw [C3.nS];omega)) rfl rfl
 refine ⟨f,fr,gv,K4,C4,λq hq=>?_,λq hq=>?_,?_⟩
 ·rw [hfr q hq];simp only [ne_eq,not_true_eq_false,false_or];rw [Y8];exact ⟨λh=>h.2,λh=>⟨hq,h⟩⟩
 ·rw [hgv q hq];simp only [Bool.false_eq_true,false_or];rw [a5C];exact ⟨λh=>h.2,λh=>⟨hq,h⟩⟩
 ·unfold T8;refine a0O _ _ _ ?_;rw [a4M,show (pgs K 0).length+(fls K 0).length+1=((fls K 0).length+1)+(pgs K 0).length by omega];refine run2 _ _ _ _ ?_;show Alone 0 ((a6O 1 (((pgs K 0).map Int.ofNat).take (0+(pgs K 0).length)) (a0Q K 0) 0).then false _) K2 _ _ K4;unfold a6O;rw [if_pos rfl,M.bind_then,a7N,Nat.add_comm (fls K 0).length 1];refine run3 _ _ _ _ ?_;show Alone 0 ((a6N 1 _ _ 0).then false _) K3 1 _ K4;unfold a6N;rw [if_pos rfl,M.bind_then];refine J3 hcall ?_;show Alone 0 ((a6M 1 _ _ 0).then false _) K4 0 _ K4;unfold a6M;rw [if_pos rfl,M.pure_then];exact .nil _ _
theorem b5C (S:Sole K)(h2:2<=K.nS){x:Int}{r:List Int}(hx:D5 K K.nF=x::r)(hl:r.length<(pgs K 0).length):∃ K',Eqv K K'/\T8 0 1 0 0 K (r.length+1+r.length+1+1) 0 10 K':=by
 obtain ⟨f,K1,C1,hF,a0O⟩:=a7P S h2 hx;have pl:=(W9 x r).length_eq;obtain ⟨fr,K2,xs,C2,hfr,run2⟩:=a9x S h2 (pgs K 0) 0 (K8 (x::r)) _ K1 C1 (a1r _) (λp hp=>⟨((Y8 K 0 p).1 hp).1,rfl,((Y8 K 0 p).1 hp).2⟩) hF (by rw [pl];exact hl);rw [pl] at hfr run2;have tk:∀ q∈(pgs K 0).take r.length,q<4:=λq hq=>((Y8 K 0 q).1 (List.mem_of_mem_take hq)).1;obtain ⟨fr3,K3,C3,hfr3,run3⟩:=a5Q S h2 (.inl rfl) ((pgs K 0).take r.length) fr K2 C2 ((a1r _).sublist (List.take_sublist _ _)) (λp hp=>⟨tk p hp,(hfr p (tk p hp)).2 (.inr hp)⟩)
 obtain ⟨K4,hc,E⟩:=a9K S C3 (.inl rfl) h2 (λp hp=>Classical.byContradiction λn=>by
  obtain ⟨a,b⟩:=(hfr3 p hp).1 n;rcases (hfr p hp).1 a with h|h
  ·exact h rfl
  ·exact b h) (λ_ _=>rfl)
 have hcall:o8 K3 0 12 1 0 0=⟨K4,0,0⟩:=by
  rw [← hc];exact M6 (slot:=0) (call:=12) (a:=(1:Nat)) (b:=0) (c:=0) (by decide) (by decide) (C3.me S).1 (C3.me S).2 (C9 (by show ((1:Nat):Int)<K3.nS;rw [C3.nS];omega)) rfl rfl
 have tl:((pgs K 0).take r.length).length=r.length:=by rw [List.length_take];omega
 refine ⟨K4,E,?_⟩;unfold T8;refine a0O _ _ _ ?_;rw [a4M,show r.length+1+r.length+1=(1+r.length)+r.length+1 by omega];refine run2 _ _ _ _ ?_;show Alone 0 ((a6O 1 (((pgs K 0).map Int.ofNat).take (0+r.length)) (a0Q K 0) 10).then false _) K2 _ _ K4;rw [Nat.zero_add,← List.map_take];unfold a6O;rw [if_neg (by decide)];unfold a6N;rw [if_neg (by decide)];unfold a6M;rw [if_neg (by decide),M.bind_then];unfold b2W;rw [M.bind_then];unfold a1J;rw [M.bind_then];have h3:=run3 (λa go=>((a0f 11 1 []).bind λ_=>V3 12 1 0 0).then go (λz go=>(M.pure (if z.2=3 then 3 else 10)).then go (λe' go=>(M.pure (0,e')).then go (λz _=>λ_=>.done z.1 z.2)))) 1 (λ_=>.done 0 10) K4;rw [tl] at h3;refine h3 ?_;rw [M.bind_then];show Alone 0 ((V3 12 1 0 0).then false _) K3 1 _ K4;refine J3 hcall ?_;exact .nil _ _
theorem b8y (S:Sole K)(h2:2<=K.nS){t:Nat}{fr:Nat->Int}{gv:Nat->Bool}{cd:Int}{K':Ker}(C:Kid K t fr gv 2 cd K')(a:Int):∃ K'',Kid K t fr gv 3 a K''/\T8 1 6 a 0 K' 1 0 0 K'':=by
 obtain ⟨K'',hc,C2⟩:=b5K S C a;have hcall:o8 K' 1 9 a 0 0=⟨K'',0,0⟩:=by
  rw [← hc];exact M6 (slot:=1) (call:=9) (a:=a) (b:=0) (c:=0) (by decide) (by decide) (by rw [C.nS];omega) C.s0 rfl rfl rfl
 refine ⟨K'',C2,?_⟩;unfold T8 N3;rw [if_neg (by decide),if_neg (by decide),if_neg (by decide),if_neg (by decide),if_neg (by decide),if_pos rfl];refine J3 hcall ?_;exact .nil _ _
theorem b8z (S:Sole K)(h2:2<=K.nS){t:Nat}{fr:Nat->Int}{gv:Nat->Bool}{cd:Int}{K':Ker}(C:Kid K t fr gv 3 cd K'):∃ K'',Eqv K K''/\T8 0 2 0 0 K' ((pgs K' 1).length+(fls K' 1).length+1) cd 0 K'':=by
 have mp:∀ q,q∈pgs K' 1↔q<4/\fr q≠-1:=λq=>by
  rw [Y8];exact ⟨λh=>⟨h.1,by rw [← C.pg q h.1];exact h.2⟩,λh=>⟨h.1,by rw [C.pg q h.1];exact h.2⟩⟩
 have mf:∀ q,q∈fls K' 1↔q<4/\gv q=true:=λq=>by
  rw [a5C];refine ⟨λh=>⟨h.1,?_⟩,λh=>⟨h.1,?_⟩⟩
  ·have:=h.2;rw [C.fl q h.1] at this
   by_cases e:gv q=true
   ·exact e
   ·rw [if_neg e] at this;exact absurd rfl this
  ·rw [C.fl q h.1,if_pos h.2];exact C.gvf q h.1 h.2
 obtain ⟨fr3,K3,C3,hfr3,run3⟩:=a5Q S h2 (.inr rfl) (pgs K' 1) fr K' C (a1r _) (λp hp=>(mp p).1 hp);obtain ⟨gv4,K4,C4,hgv4,run4⟩:=a9z S h2 (.inr rfl) S.ends (fls K' 1) gv K3 C3 (a1r _) (λp hp=>(mf p).1 hp)
 obtain ⟨K5,hc,E⟩:=a9K S C4 (.inr rfl) h2 (λp hp=>Classical.byContradiction λn=>by
  obtain ⟨a,b⟩:=(hfr3 p hp).1 n;exact b ((mp p).2 ⟨hp,a⟩)) (λq hq=>by
  cases e:gv4 q with
  | false=>rfl
  | true =>
   obtain ⟨a,b⟩:=(hgv4 q hq).1 e
   exact absurd ((mf q).2 ⟨hq,a⟩) b)
 have hcall:o8 K4 0 12 1 0 0=⟨K5,cd,0⟩:=by
  rw [← hc];exact M6 (slot:=0) (call:=12) (a:=(1:Nat)) (b:=0) (c:=0) (by decide) (by decide) (C4.me S).1 (C4.me S).2 (C9 (by show ((1:Nat):Int)<K4.nS;rw [C4.nS];omega)) rfl rfl
 refine ⟨K5,E,?_⟩;unfold T8 N3;rw [if_neg (by decide),if_pos rfl];obtain ⟨m,hm⟩:∃ m,K'.nS=m+2:=⟨K.nS - 2,by rw [C.nS];omega⟩;rw [hm];unfold a3f;rw [if_neg (by rw [C.so 0 (by omega) 1,S.par];simp)];unfold a3f;rw [if_pos (by rw [C.s1,C.s0];decide)];unfold a1J;rw [M.bind_then,a4M,a7N,show (pgs K' 1).length+(fls K' 1).length+1=(1+(fls K' 1).length)+(pgs K' 1).length by omega];refine run3 _ _ _ _ ?_;rw [M.bind_then];refine run4 _ _ _ _ ?_;refine J3 hcall ?_;exact .nil _ _
theorem b3h (h0:0<K.nS)(hr:K.S 0 0=2)(h:∀ i,i<K.nS->¬ (K.S i 1=0/\K.S i 0=3)):T8 0 2 0 0 K 1 0 11 K:=by
 have key:∀ f i,i+f=K.nS->a3f K 0 f i=(T0 11).bind λe=>M.pure (0,e):=by
  intro f
  induction f with
  | zero=>intro i _;rfl
  | succ f ih =>
   intro i hi;unfold a3f
   rw [if_neg (λe=>by
    simp only [Bool.and_eq_true,beq_iff_eq] at e
    exact h i (by omega) e)]
   exact ih (i+1) (by omega)
 unfold T8 N3;rw [if_neg (by decide),if_pos rfl,show ((0:Nat):Int)=0 from rfl,key K.nS 0 (by omega),M.bind_then];refine a0Y (M6 (slot:=0) (call:=1) (by decide) (by decide) h0 hr rfl rfl rfl) ?_;exact .nil _ _
end
end Go.Proofs.YtcgabodkegcpgaaDoor
