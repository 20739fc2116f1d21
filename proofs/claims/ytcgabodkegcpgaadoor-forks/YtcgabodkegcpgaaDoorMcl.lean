/- Pick in company. -/
import Derived.Test.YtcgabodkegcpgaaDoorMcj
set_option linter.unusedVariables false
set_option linter.unusedSimpArgs false
set_option maxHeartbeats 20000000
set_option maxRecDepth 100000
namespace Go.Proofs.YtcgabodkegcpgaaDoor
open Go.Conc Go.RowKit
open Br (X OpD KO SO SP sfO Lk Fit Must DL Liv Clear)
structure LibM0 (kb:Kb) (l:List OpD) (L:Nat->Option Lv) (w:World) (b:Lb) (n B0:Nat) (U:Nat->Option OpD) (V:Nat->Value) (N:Nat->Nat) (Xs:Nat->List Value):Prop where
 is:LibIs w b kb.bk n B0 U V N Xs
 mbl:Mw kb l L w b.bl
 mbu:Mw kb l L w b.bu
 mbn:Mw kb l L w b.bn
 mls:∀ p,p<n->∀ g,(V p).ownBlock=some g->Mw kb l L w g
 b0:B0<=b.bl+1
structure LibM (kb:Kb) (l:List OpD) (L:Nat->Option Lv) (w:World) (b:Lb) (n B0:Nat) (U:Nat->Option OpD) (V:Nat->Value) (N:Nat->Nat) (Xs:Nat->List Value):Prop where
 m:LibM0 kb l L w b n B0 U V N Xs
 live:∀ p,p<n->∀ o,U p=some o->∃ v,L o.gid=some v/\v.C.o=o/\v.C.slot=p
theorem LibIs.same {w w':World}{b:Lb}{bk n B0:Nat}{U:Nat->Option OpD}{V:Nat->Value}{N:Nat->Nat}{Xs:Nat->List Value}(h:LibIs w b bk n B0 U V N Xs)(h1:w'.heap[b.bl]?=w.heap[b.bl]?)(h2:w'.heap[b.bu]?=w.heap[b.bu]?)(h3:w'.heap[b.bn]?=w.heap[b.bn]?)(h4:∀ p,p<n->∀ g,(V p).ownBlock=some g->w'.heap[g]?=w.heap[g]?):LibIs w' b bk n B0 U V N Xs :=
 ⟨(World.cell?_of_block (w:=w) h1).trans h.k0,(World.cell?_of_block (w:=w) h1).trans h.k1,(World.cell?_of_block (w:=w) h1).trans h.k2,h.u.of h2,h.d.of h3,λp hp=>N5 (h.own p hp) (h4 p hp),h.far,h.ne,h.small⟩
section
variable {kb:Kb} {l:List OpD} {K:Ker} {L:Nat->Option Lv} {r:Nat} {Inb:Nat->Option Seat} {nG:Nat} {w w':World} {v:Lv} {Final:Machine->Trace->Prop} {b:Lb} {n B0:Nat} {U:Nat->Option OpD} {V:Nat->Value} {N:Nat->Nat} {Xs:Nat->List Value}
theorem LibM0.grown (h:LibM0 kb l L w b n B0 U V N Xs)(g:Grown w w'):LibM0 kb l L w' b n B0 U V N Xs :=
 ⟨h.is.same (g.old _ h.mbl.mn.lt) (g.old _ h.mbu.mn.lt) (g.old _ h.mbn.mn.lt) (λp hp x hx=>g.old _ (h.mls p hp x hx).mn.lt),h.mbl.grow g.size,h.mbu.grow g.size,h.mbn.grow g.size,λp hp x hx=>(h.mls p hp x hx).grow g.size,h.b0⟩
theorem LibM.grown (h:LibM kb l L w b n B0 U V N Xs)(g:Grown w w'):LibM kb l L w' b n B0 U V N Xs:=⟨h.m.grown g,h.live⟩
theorem Mw.kp {L':Nat->Option Lv}{k:Nat}(h:Mw kb l L w k)(hk:Kp kb L w L' w'):Mw kb l L' w' k:=⟨(hk k h.mn).1,h.bk,h.tab,h.rc⟩
theorem LibM0.turn {L':Nat->Option Lv}(h:LibM0 kb l L w b n B0 U V N Xs)(hk:Kp kb L w L' w'):LibM0 kb l L' w' b n B0 U V N Xs :=
 ⟨h.is.same (hk _ h.mbl.mn).2 (hk _ h.mbu.mn).2 (hk _ h.mbn.mn).2 (λp hp x hx=>(hk _ (h.mls p hp x hx).mn).2),h.mbl.kp hk,h.mbu.kp hk,h.mbn.kp hk,λp hp x hx=>(h.mls p hp x hx).kp hk,h.b0⟩
theorem a2i (co:Co kb l K L r Inb nG w)(lm:LibM0 kb l L w b n B0 U V N Xs)(s:Int)(fr:Frame)(cs:List Frame)(d:Nat) :
  Must Tryd.prog true (DL true (sfO l)) (λg w'=>g=G (fr.finish (.bool (decide (0<=s) && decide (s<n)))) cs/\Grown w w') (G (Frame.enter Tryd.prog 40 #[.pointer (some ⟨b.bl,0,none⟩),.int .i64 s] .normal) (fr::cs)) (w.at d):=by
 refine (Br.S8 Br.a3j (sft:=sfO l) (w0:=w.at d) (by kernel_rfl) ⟨co.env.fit.soft,co.env.fit.clear⟩ true (Q:=λx v'=>x=.bool (decide (0<=s) && decide (s<n))/\Lk (sfO l) v' (w.at d))
  (λv hv=>(a3a v b.bl b.bu n s (by rw [hv.cell];exact lm.is.k1)).mono λe v' he=>by
   obtain ⟨rfl,rfl⟩:=he
   exact ⟨rfl,hv⟩) fr cs).keep.mono (λ_ _ _ h=>h) ?_
 rintro g w' ⟨⟨x,v',rfl,hl',rfl,hl⟩,hkp⟩;refine ⟨rfl,?_,λk hk=>H7 (w:=w.at d) hkp hl hl' rfl,hl'.fit.clear⟩;have e1:v'.heap.size=w.heap.size:=hl.size;have e2:v'.heap.size=w'.heap.size:=hl'.size;omega
noncomputable def a3X:Code:=(Tryd.f18.body).getD .skip
theorem b1h (k0 x:Value):Frame.enter Tryd.prog 18 #[k0,x] .normal=(base 18).at ⟨#[k0,x,undef,undef,undef,undef,undef,undef,undef,undef,undef,undef,undef,undef,undef,undef,undef,undef,undef,undef,undef,undef,undef,undef,undef,undef,undef,undef,undef,undef,undef,undef,undef,undef,undef,undef,undef,undef,undef,undef,undef,undef,undef,undef,undef,undef,undef],[]⟩ [.code a3X]:=by
 rw [enter_at (c:=a3X) _ Tryd.func18 rfl];refine congrArg (λt=>(base 18).at ⟨t,[]⟩ [.code a3X]) ?_
 kernel_rfl
noncomputable def a6l:Code :=
 match Tryd.f18.body with
 | some (.seq _ (.seq _ (.seq _ (.seq _ (.seq _ c)))))=>c
 | _=>.skip
def a4W (U:Nat->Option OpD)(p:Nat):Nat->Option OpD:=λq=>if q=p then none else U q
def V0 {α:Type}(V:Nat->α)(p:Nat)(x:α):Nat->α:=λq=>if q=p then x else V q
theorem b3F (co:Co kb l K L r Inb nG w)(lm:LibM0 kb l L w b n B0 U V N Xs){p:Nat}(hp:p<n)(hN:N p<=4398046511104){C:Ctx}(ho:C.o∈l){er va:Int}(hrow:∃ t free un go,w.heap[C.o.bo]?=some (.cells (I5 C er va free un go) t (0,0)))(hlive:∀ q,q<n->q≠p->∀ o,U q=some o->∃ v,L o.gid=some v/\v.C.o=o/\v.C.slot=q)(fr:Frame)(cs:List Frame)
  (hx:∀ w' g cap,((V p).ownBlock=some g\/w.heap.size<=g)->Co kb l K L r Inb nG w'->w.heap.size<=w'.heap.size->(∀ k,k<w.heap.size->k≠b.bu->k≠b.bn->(V p).ownBlock≠some k->w'.heap[k]?=w.heap[k]?)->LibM kb l L w' b n B0 (a4W U p) (V0 V p (.slice (some ⟨g,0,none⟩) (N p+1) cap)) (V0 N p (N p+1)) (V0 Xs p (Xs p ++ ent C.kd C.A C.B er va))->X Tryd.prog Final l Inb nG 0 (G (fr.finish (.tuple #[.bool true,.int .i64 0])) cs) w')(d0:Nat) :
  Must Tryd.prog true (DL true (sfO l)) (X Tryd.prog Final l Inb nG 0) (G ((base 18).at ⟨#[.pointer (some ⟨b.bl,0,none⟩),.int .i64 p,undef,undef,.bool false,.int .i64 0,pO C.o,.pointer (some ⟨b.bl,0,none⟩),.int .i64 p,.bool true,.bool false,.pointer (some ⟨b.bl,0,none⟩),.pointer (some ⟨b.bl,0,none⟩),.pointer (some ⟨b.bl,1,none⟩),.slice (some ⟨b.bu,0,none⟩) n n,.int .i64 p,.pointer (some ⟨b.bu,p,none⟩),pO C.o,pO C.o,.bool false,pO C.o,.bool false,undef,undef,undef,undef,undef,undef,undef,undef,undef,undef,undef,undef,undef,undef,undef,undef,undef,undef,undef,undef,undef,undef,undef,undef,undef],[]⟩ [.code a6l]) (fr::cs)) (w.at d0):=by
 obtain ⟨t,f1,f2,f3,hrow⟩:=hrow;have cu:=lm.is.u.cell hp;have zu:=lm.is.u.frozen p;have ck1:=lm.is.k1;have hc:=co.env.fit.clear;have i0:(0:Int)<=(p:Int):=by omega
 have i1:(p:Int)<(n:Int):=by omega
 have rest:∀ d,Must Tryd.prog true (DL true (sfO l)) (X Tryd.prog Final l Inb nG 0) (G ((base 18).at ⟨#[.pointer (some ⟨b.bl,0,none⟩),.int .i64 p,undef,undef,.bool false,.int .i64 0,pO C.o,.pointer (some ⟨b.bl,0,none⟩),.int .i64 p,.bool true,.bool false,.pointer (some ⟨b.bl,0,none⟩),.pointer (some ⟨b.bl,0,none⟩),.pointer (some ⟨b.bl,1,none⟩),.slice (some ⟨b.bu,0,none⟩) n n,.int .i64 p,.pointer (some ⟨b.bu,p,none⟩),pO C.o,pO C.o,.bool false,pO C.o,.bool false,.pointer (some ⟨b.bl,0,none⟩),.pointer (some ⟨b.bl,0,none⟩),.pointer (some ⟨b.bl,1,none⟩),.slice (some ⟨b.bu,0,none⟩) n n,.int .i64 p,.pointer (some ⟨b.bu,p,none⟩),undef,undef,undef,undef,undef,undef,undef,undef,undef,undef,undef,undef,undef,undef,undef,undef,undef,undef,undef],[]⟩ [.code (.region 9 E5 true),.code (match Tryd.f18.body with|some (.seq _ (.seq _ (.seq _ (.seq _ (.seq _ (.seq _ (.seq _ c)))))))=>c|_=>.skip)]) (fr::cs)) ((w.setCell ⟨b.bu,p,none⟩ (.pointer none)).at d):=by
  intro d;have e1:∀ k,k≠b.bu->(w.setCell ⟨b.bu,p,none⟩ (.pointer none)).heap[k]?=w.heap[k]?:=λk hk=>by rw [Br.heap_setCell,if_neg (λe=>hk e.symm)]
  have z1:(w.setCell ⟨b.bu,p,none⟩ (.pointer none)).heap.size=w.heap.size:=by simp [World.setCell]
  have u1:=lm.is.u.set hp (.pointer none);have cl1:Clear (w.setCell ⟨b.bu,p,none⟩ (.pointer none)):=(Br.F5 hc.lk (Nat.zero_le _) _).1.sight;generalize w.setCell ⟨b.bu,p,none⟩ (.pointer none)=w1 at *;have co1:Co kb l K L r Inb nG w1:=co.wrote (by omega) cl1 (λk hk h=>e1 k (λe=>h (e▸lm.mbu)));obtain ⟨ne1,ne2,ne3,lb1,lb2,lb3⟩:=lm.is.ne;have lsne:∀ q,q<n->∀ x,(V q).ownBlock=some x->x≠b.bu/\x≠b.bn/\x≠b.bl:=λq hq x hx=>by have:=(Z5 (lm.is.own q hq) hx).1;exact ⟨by omega,by omega,by omega⟩
  have S1:PkS w1 b.bl b.bn n p C.o.bo C.kd C.A C.B er va (V p):=⟨(World.cell?_of_block (w:=w) (e1 _ ne1)).trans lm.is.k2,(World.cell?_of_block (w:=w) (e1 _ (Ne.symm ne3))).trans (lm.is.d.cell hp),λj x hx=>by
   rw [World.cell?_of_block (w:=w) (e1 _ (lm.mbu.rc _ ho))];simp only [World.cell?,hrow];have hcs:j=0\/j=1\/j=2\/j=3\/j=4\/5<=j:=by omega
   rcases hcs with rfl|rfl|rfl|rfl|rfl|h
   ·simpa [ent,I5] using hx
   ·simpa [ent,I5] using hx
   ·simpa [ent,I5] using hx
   ·simpa [ent,I5] using hx
   ·simpa [ent,I5] using hx
   ·rw [List.getElem?_eq_none (by simp [ent];omega)] at hx;cases hx⟩
  have r1:X2 w1 b.bn n V:=lm.is.d.of (e1 _ (Ne.symm ne3));have own1:w1.ownsRow B0 70 5 (V p) (N p) (Xs p):=N5 (lm.is.own p hp) (λx hx=>e1 x (lsne p hp x hx).1);have nbo:(V p).ownBlock≠some C.o.bo:=λe=>(lm.mls p hp _ e).rc _ ho rfl
  refine (Br.a8N Br.a3j (sft:=sfO l) (b:=base 18) (w0:=w1.at d) (c:=.region 9 E5 true) (by kernel_rfl) rfl rfl ⟨_,Tryd.func18⟩ ⟨co1.env.fit.soft,co1.env.fit.clear⟩ true
   (Q:=λe a' v'=>e=.normal/\∃ v,Lk (sfO l) v (w1.at d)/\∃ g cap n1,a'=⟨Br.fill E5 (pkV b.bl b.bn n p C.o.bo n1 g (N p+1) cap (V p) (ent C.kd C.A C.B er va)) #[.pointer (some ⟨b.bl,0,none⟩),.int .i64 p,undef,undef,.bool false,.int .i64 0,pO C.o,.pointer (some ⟨b.bl,0,none⟩),.int .i64 p,.bool true,.bool false,.pointer (some ⟨b.bl,0,none⟩),.pointer (some ⟨b.bl,0,none⟩),.pointer (some ⟨b.bl,1,none⟩),.slice (some ⟨b.bu,0,none⟩) n n,.int .i64 p,.pointer (some ⟨b.bu,p,none⟩),pO C.o,pO C.o,.bool false,pO C.o,.bool false,.pointer (some ⟨b.bl,0,none⟩),.pointer (some ⟨b.bl,0,none⟩),.pointer (some ⟨b.bl,1,none⟩),.slice (some ⟨b.bu,0,none⟩) n n,.int .i64 p,.pointer (some ⟨b.bu,p,none⟩),undef,undef,undef,undef,undef,undef,undef,undef,undef,undef,undef,undef,undef,undef,undef,undef,undef,undef,undef],[]⟩/\v.heap.size<=v'.heap.size/\(∀ k,k<v.heap.size->k≠b.bn->(V p).ownBlock≠some k->v'.heap[k]?=v.heap[k]?)/\X2 v' b.bn n (λq=>if q=p then .slice (some ⟨g,0,none⟩) (N p+1) cap else V q)/\v'.ownsRow B0 70 5 (.slice (some ⟨g,0,none⟩) (N p+1) cap) (N p+1) (Xs p ++ ent C.kd C.A C.B er va)/\((V p).ownBlock=some g\/v.heap.size<=g))
   (λe a w h=>.inl h.1) (λv hv=>Code.wp_mono (λe a' v' h=>⟨h.1,v,hv,h.2⟩) (b9b (V:=V) (N:=N p) rfl rfl rfl rfl hp ⟨by rw [hv.cell];exact S1.l,by rw [hv.cell];exact S1.d,λj x hx=>by rw [hv.cell];exact S1.r j x hx⟩ (r1.of (Z4 hv lm.mbn.sf (.inl r1.cells))) (N5 own1 (λx hx=>Z4 hv (lm.mls p hp x hx).sf (.inl (a3p own1 hx)))) hN ⟨lb3,lb1⟩ (by rw [hv.size];show B0<=w1.heap.size;have:=lm.b0;have:=lm.mbl.mn.lt;omega) nbo)) _ _).keep.then ?_
  rintro gr w2 ⟨⟨e,a',v',⟨he,v,hv,g,cap,n1,rfl,hsz,hk,hrw,how,hg⟩,hl',hgr⟩,hkp⟩;obtain rfl:gr=_:=by rcases hgr with ⟨_,h⟩|⟨h,_⟩;exact h;rw [he] at h;cases h
  have sv:v.heap.size=w1.heap.size:=hv.size;have sv':v'.heap.size=w2.heap.size:=hl'.size;have k2:∀ k,k<w.heap.size->k≠b.bu->k≠b.bn->(V p).ownBlock≠some k->w2.heap[k]?=w.heap[k]?:=λk h0 h1 h2 h3=>by rw [H7 (w:=w1.at d) hkp hv hl' (hk k (by omega) h2 h3)];exact e1 k h1
  have sg:sfO l g=0:=by
   rcases hg with h|h
   ·exact (lm.mls p hp g h).sf
   ·exact Br.G6 λo ho'=>by have:=Br.KO.lt co.env.ko ho';omega
  have how2:w2.ownsRow B0 70 5 (.slice (some ⟨g,0,none⟩) (N p+1) cap) (N p+1) (Xs p ++ ent C.kd C.A C.B er va):=N5 how (λx hx=>by obtain rfl:g=x:=Option.some.inj hx;exact (Z4 hl' sg (.inr (a3p how rfl))).symm);have hrw2:X2 w2 b.bn n (λq=>if q=p then .slice (some ⟨g,0,none⟩) (N p+1) cap else V q):=hrw.of (Z4 hl' lm.mbn.sf (.inr hrw.cells)).symm;have hu2:X2 w2 b.bu n (λq=>if q=p then .pointer none else c0B (U q)):=u1.of (H7 (w:=w1.at d) hkp hv hl' (hk b.bu (by have:=lm.mbu.mn.lt;omega) ne3 (λe=>(lsne p hp _ e).1 rfl)));have cl2:Clear w2:=hl'.fit.clear;have hz2:w.heap.size<=w2.heap.size:=by omega
  have co2:Co kb l K L r Inb nG w2:=co.wrote hz2 cl2 (λk h0 h=>k2 k h0 (λe=>h (e▸lm.mbu)) (λe=>h (e▸lm.mbn)) (λe=>h (lm.mls p hp k e)));have bl2:w2.heap[b.bl]?=w.heap[b.bl]?:=k2 _ lm.mbl.mn.lt ne1 ne2 (λe=>(lsne p hp _ e).2.2 rfl);have glt:g<w2.heap.size:=(Z5 how2 rfl).2;have lm2:LibM kb l L w2 b n B0 (a4W U p) (V0 V p (.slice (some ⟨g,0,none⟩) (N p+1) cap)) (V0 N p (N p+1)) (V0 Xs p (Xs p ++ ent C.kd C.A C.B er va)):=by
   refine ⟨⟨⟨(World.cell?_of_block (w:=w) bl2).trans lm.is.k0,(World.cell?_of_block (w:=w) bl2).trans lm.is.k1,(World.cell?_of_block (w:=w) bl2).trans lm.is.k2,?_,hrw2,λq hq=>?_,λq q' hq hq' hne=>?_,lm.is.ne,lm.is.small⟩,lm.mbl.grow hz2,lm.mbu.grow hz2,lm.mbn.grow hz2,λq hq x hx=>?_,lm.b0⟩,λq hq o' ho'=>?_⟩
   ·obtain ⟨c,t',a1,a2,a3⟩:=hu2;refine ⟨c,t',a1,a2,λq hq=>?_⟩;rw [a3 q hq]
    by_cases e:q=p
    ·simp only [a4W,e,if_true];rfl
    ·simp only [a4W,e,if_false]
   ·by_cases e:q=p
    ·subst e;simp only [V0,if_true];exact how2
    ·simp only [V0,e,if_false];refine N5 (lm.is.own q hq) (λx hx=>k2 x (lm.mls q hq x hx).mn.lt (lsne q hq x hx).1 (lsne q hq x hx).2.1 (λh=>?_));rcases lm.is.far q p hq hp e with h1|h1
     ·rw [hx] at h1;cases h1
     ·exact h1 (hx.trans h.symm)
   ·have key:∀ q,q<n->q≠p->(V q).ownBlock≠some g:=λq hq e h=>by
     rcases hg with h1|h1
     ·rcases lm.is.far q p hq hp e with h2|h2
      ·rw [h] at h2;cases h2
      ·exact h2 (h.trans h1.symm)
     ·have:=(lm.mls q hq g h).mn.lt;omega
    by_cases e:q=p
    ·have e':q'≠p:=λh=>hne (e.trans h.symm);simp only [V0,e,e',if_true,if_false];exact .inr (λh=>key q' hq' e' h.symm)
    ·by_cases e':q'=p
     ·simp only [V0,e,e',if_true,if_false];exact .inr (key q hq e)
     ·simp only [V0,e,e',if_false];exact lm.is.far q q' hq hq' hne
   ·by_cases e:q=p
    ·simp only [V0,e,if_true] at hx;obtain rfl:g=x:=Option.some.inj hx;rcases hg with h|h
     ·exact (lm.mls p hp g h).grow hz2
     ·exact co.new (by omega) glt
    ·simp only [V0,e,if_false] at hx;exact (lm.mls q hq x hx).grow hz2
   ·by_cases e:q=p
    ·simp only [a4W,e,if_true] at ho';cases ho'
    ·simp only [a4W,e,if_false] at ho';exact hlive q hq e o' ho'
  have hx:∀ d,X Tryd.prog Final l Inb nG 0 (G (fr.finish (.tuple #[.bool true,.int .i64 0])) cs) (w2.at d):=λd=>hx (w2.at d) g cap (hg.imp id (λh=>by omega)) (co2.at d) hz2 k2 (lm2.grown ⟨Nat.le_refl _,λ_ _=>rfl,cl2⟩);have hc:=cl2;rw [show Br.fill E5 (pkV b.bl b.bn n p C.o.bo n1 g (N p+1) cap (V p) (ent C.kd C.A C.B er va)) #[.pointer (some ⟨b.bl,0,none⟩),.int .i64 p,undef,undef,.bool false,.int .i64 0,pO C.o,.pointer (some ⟨b.bl,0,none⟩),.int .i64 p,.bool true,.bool false,.pointer (some ⟨b.bl,0,none⟩),.pointer (some ⟨b.bl,0,none⟩),.pointer (some ⟨b.bl,1,none⟩),.slice (some ⟨b.bu,0,none⟩) n n,.int .i64 p,.pointer (some ⟨b.bu,p,none⟩),pO C.o,pO C.o,.bool false,pO C.o,.bool false,.pointer (some ⟨b.bl,0,none⟩),.pointer (some ⟨b.bl,0,none⟩),.pointer (some ⟨b.bl,1,none⟩),.slice (some ⟨b.bu,0,none⟩) n n,.int .i64 p,.pointer (some ⟨b.bu,p,none⟩),undef,undef,undef,undef,undef,undef,undef,undef,undef,undef,undef,undef,undef,undef,undef,undef,undef,undef,undef]=#[.pointer (some ⟨b.bl,0,none⟩),.int .i64 p,undef,undef,.bool false,.int .i64 0,pO C.o,.pointer (some ⟨b.bl,0,none⟩),.int .i64 p,.bool true,.bool false,.pointer (some ⟨b.bl,0,none⟩),.pointer (some ⟨b.bl,0,none⟩),.pointer (some ⟨b.bl,1,none⟩),.slice (some ⟨b.bu,0,none⟩) n n,.int .i64 p,.pointer (some ⟨b.bu,p,none⟩),pO C.o,pO C.o,.bool false,pO C.o,.bool false,.pointer (some ⟨b.bl,0,none⟩),.pointer (some ⟨b.bl,0,none⟩),.pointer (some ⟨b.bl,1,none⟩),.slice (some ⟨b.bu,0,none⟩) n n,.int .i64 p,.pointer (some ⟨b.bu,p,none⟩),.pointer (some ⟨b.bl,0,none⟩),.pointer (some ⟨b.bl,0,none⟩),.pointer (some ⟨b.bl,2,none⟩),.slice (some ⟨b.bn,0,none⟩) n n,.int .i64 p,.pointer (some ⟨b.bl,0,none⟩),.pointer (some ⟨b.bl,0,none⟩),.pointer (some ⟨b.bl,2,none⟩),.slice (some ⟨b.bn,0,none⟩) n n,.int .i64 p,.pointer (some ⟨b.bn,p,none⟩),V p,pO C.o,pO C.o,.pointer (some ⟨C.o.bo,5,none⟩),.agg (ent C.kd C.A C.B er va).toArray,.slice (some ⟨n1,0,none⟩) 1 1,.slice (some ⟨g,0,none⟩) (N p+1) cap,.pointer (some ⟨b.bn,p,none⟩)] from by kernel_rfl];clear lm2 co2 k2 how2 hrw2 hu2 hk hrw how S1 r1 own1 u1 e1;rw [show w2=w2.at w2.drawn from rfl];generalize w2.drawn=dz;simp only [Tryd.f18];refine Br.b8 (λd=>?_) _;refine Br.b9 (λd=>?_) _;simp only [Br.rz,Br.ix,Nat.reduceAdd];(iterate 2(refine Br.mo rfl rfl λd K' hK=>?_;go_simp;refine hK _ _ ⟨rfl,?_⟩;clear hK K'));refine Br.a9 (λd=>?_) _;refine Br.q8 (λd=>?_) _;exact Br.m8 (v:=.tuple #[.bool true,.int .i64 0]) rfl rfl Tryd.func18 (resultsC_tmp2 (t:=4) (u:=5) rfl _) (w:=w2) (λd=>.stop (hx d)) _
 unfold a6l;unfold E5 at rest;simp only [Tryd.f18,pO] at *;refine Br.b8 (λd=>?_) _;refine Br.b9 (λd=>?_) _;simp only [Br.rz,Br.ix,Nat.reduceAdd];(iterate 3(refine Br.mo rfl rfl λd K' hK=>?_;go_simp;refine hK _ _ ⟨rfl,?_⟩;clear hK K'));refine Br.mo rfl rfl λd K' hK=>?_;have e1:(w.at d).cell? ⟨b.bl,1,none⟩=some (.slice (some ⟨b.bu,0,none⟩) n n):=ck1;go_simp;refine hK _ _ ⟨rfl,?_⟩;clear hK K';(iterate 2(refine Br.mo rfl rfl λd K' hK=>?_;go_simp;refine hK _ _ ⟨rfl,?_⟩;clear hK K'));refine Br.t8 rfl rfl (by decide) (λd K' hK=>?_) _;have ej:(w.at d).cell? ⟨b.bu,p,none⟩=some (c0B (U p)):=cu;have ez:(w.at d).frozen? ⟨b.bu,p,none⟩=false:=zu;go_simp;refine hK _ _ ⟨Br.Q7 (by rw [lm.mbu.sf];exact Nat.zero_le _) (World.block_lt_of_cell? _ _ ej) (λe he=>?_),?_⟩
 ·have hm:=mem_listed he;simp only [go_sem] at hm;simp [go_sem] at hm
  try rw [events_store _ _ _ _ _ _ rfl] at hm
  first|rw [ej] at hm|rw [cu] at hm
  first|rw [ez] at hm|rw [zu] at hm
  simp only [Bool.false_eq_true,if_false,List.push_toArray,List.nil_append,List.mem_toArray,List.mem_cons,List.not_mem_nil,or_false] at hm;exact hm
 clear hK K' ej ez;rw [show (w.at d).setCell ⟨b.bu,p,none⟩ (.pointer none)=(w.setCell ⟨b.bu,p,none⟩ (.pointer none)).at d from rfl];have hc:Clear (w.setCell ⟨b.bu,p,none⟩ (.pointer none)):=(Br.F5 hc.lk (Nat.zero_le _) _).1.sight;refine Br.a9 (λd=>?_) _;refine Br.b8 (λd=>?_) _;exact rest _
end
section
variable {kb:Kb} {l:List OpD} {K:Ker} {L:Nat->Option Lv} {r:Nat} {Inb:Nat->Option Seat} {nG:Nat} {w w':World} {v:Lv} {Final:Machine->Trace->Prop} {b:Lb} {B0:Nat} {U:Nat->Option OpD} {V:Nat->Value} {N:Nat->Nat} {Xs:Nat->List Value}
def a6m (b:Lb)(V:Nat->Value)(p k:Nat):Prop:=k=b.bu\/k=b.bn\/(V p).ownBlock=some k
noncomputable def b2O (x:Bool):List Item :=
 match Tryd.f18.body with
 | some (.seq _ (.seq _ (.seq _ (.seq _ (.seq (.seq (.region _ ops _) c) k)))))=>[.inRegion ops [1],.code c,.code k]
 | _=>[]
theorem a6n (co:Co kb l K L (r+1) Inb nG w){n:Nat}(hn:K.nS=n)(lm:LibM kb l L w b n B0 U V N Xs)(hN:∀ p,p<n->N p<=4398046511104)(hu1:∀ p q o,p<n->q<n->U p=some o->U q=some o->p=q)(s:Int)(fr:Frame)(cs:List Frame)
  (hno:(decide (0<=s) && decide (s<(n:Int)))=false->∀ w',Grown w w'->X Tryd.prog Final l Inb nG 0 (G (fr.finish (.tuple #[.bool false,.int .i64 3])) cs) w')
  (hnil:∀ p:Nat,s=p->p<n->U p=none->∀ w',Grown w w'->X Tryd.prog Final l Inb nG 0 (G (fr.finish (.tuple #[.bool false,.int .i64 11])) cs) w')
  (hmore:∀ (p:Nat) (v:Lv),s=p->p<n->U p=some v.C.o->v.C.slot=p->L v.C.o.gid=some v->∀ w' v' Inb',v'.C=v.C->v'.S=(λ_=>(v.turn K).2)->(∃ n a b c,(v.turn K).2 []=.call n a b c)->Co kb l (v.turn K).1 (ConcN.upd L v.C.o.gid (some v')) r Inb' nG w'->Kp kb L w (ConcN.upd L v.C.o.gid (some v')) w'->LibM kb l (ConcN.upd L v.C.o.gid (some v')) w' b n B0 U V N Xs->X Tryd.prog Final l Inb' nG 0 (G (fr.finish (.tuple #[.bool false,.int .i64 0])) cs) w')
  (hover:∀ (p:Nat) (v:Lv),s=p->p<n->U p=some v.C.o->v.C.slot=p->L v.C.o.gid=some v->∀ w' Inb' val err g cap,(v.turn K).2 []=.done val err->(∀ k,Mn kb L w k->¬ a6m b V p k->k≠g)->Co kb l (v.turn K).1 (ConcN.upd L v.C.o.gid none) r Inb' nG w'->(∀ k,Mn kb L w k->¬ a6m b V p k->Mn kb (ConcN.upd L v.C.o.gid none) w' k/\w'.heap[k]?=w.heap[k]?)->LibM kb l (ConcN.upd L v.C.o.gid none) w' b n B0 (a4W U p) (V0 V p (.slice (some ⟨g,0,none⟩) (N p+1) cap)) (V0 N p (N p+1)) (V0 Xs p (Xs p ++ ent v.C.kd v.C.A v.C.B err val))->X Tryd.prog Final l Inb' nG 0 (G (fr.finish (.tuple #[.bool true,.int .i64 0])) cs) w') :
  X Tryd.prog Final l Inb nG 0 (G (Frame.enter Tryd.prog 18 #[.pointer (some ⟨b.bl,0,none⟩),.int .i64 s] .normal) (fr::cs)) w:=by
 subst hn;have hc:=co.env.fit.clear;have turn:∀ (p:Nat) (o:OpD),s=p->p<K.nS->U p=some o->∀ W,Grown w W->∀ d,X Tryd.prog Final l Inb nG 0 (G (Frame.enter Tryd.prog 42 #[pO o] .normal) ((base 18).at ⟨#[.pointer (some ⟨b.bl,0,none⟩),.int .i64 p,undef,undef,.bool false,.int .i64 0,pO o,.pointer (some ⟨b.bl,0,none⟩),.int .i64 p,.bool true,.bool false,.pointer (some ⟨b.bl,0,none⟩),.pointer (some ⟨b.bl,0,none⟩),.pointer (some ⟨b.bl,1,none⟩),.slice (some ⟨b.bu,0,none⟩) K.nS K.nS,.int .i64 p,.pointer (some ⟨b.bu,p,none⟩),pO o,pO o,.bool false,pO o,undef,undef,undef,undef,undef,undef,undef,undef,undef,undef,undef,undef,undef,undef,undef,undef,undef,undef,undef,undef,undef,undef,undef,undef,undef,undef],[]⟩ (b2O true)::fr::cs)) (W.at d):=by
  intro p o hs hp hU W hW d;obtain ⟨v,hv,rfl,hsl⟩:=lm.live p hp o hU;have hgW:Grown w (W.at d):=hW.at d;have coW:=co.grown hgW;have lmW:=lm.grown hgW;have ho:v.C.o∈l:=by obtain ⟨f,m,A⟩:=coW.at_ _ v hv;exact A.mem
  have mn:∀ k,Mn kb L w k->Mn kb L (W.at d) k:=λk h=>h.grow hgW.size;refine a9U coW hv _ _ (λw' v' Inb' h1 h2 h3 h4 h5=>?_) (λw' Inb' val err h1 h2 h3 h4=>?_)
  ·have lm':LibM kb l (ConcN.upd L v.C.o.gid (some v')) w' b K.nS B0 U V N Xs:=⟨lmW.m.turn h5,λq hq o' ho'=>by
    obtain ⟨u,hu,he,hsl'⟩:=lm.live q hq o' ho'
    by_cases e:o'.gid=v.C.o.gid
    ·rw [e,ConcN.upd_same];rw [e,hv] at hu;obtain rfl:=Option.some.inj hu;exact ⟨v',rfl,by rw [h1];exact he,by rw [h1];exact hsl'⟩
    ·rw [ConcN.upd_ne _ _ e];exact ⟨u,hu,he,hsl'⟩⟩
   have fin:=λd=>hmore p v hs hp hU hsl hv (w'.at d) v' Inb' h1 h2 h3 (h4.at d) (λk hM=>by
    obtain ⟨m1,m2⟩:=h5 k (mn k hM)
    exact ⟨⟨m1.lt,m1.nf,m1.ns,m1.nd,m1.own⟩,m2.trans (hgW.old k hM.lt)⟩) (lm'.grown ⟨Nat.le_refl _,λ_ _=>rfl,h4.env.fit.clear⟩)
   have hc:=h4.env.fit.clear;unfold b2O;simp only [Tryd.f18,pO];rw [Frame.finish_at];refine Br.a0m (st:=true) ?_;show Must Tryd.prog true (DL true (sfO l)) _ _ (w'.at w'.drawn);generalize w'.drawn=dz;have hx:=fin;clear fin lm' h5 h4;go_simp;refine Br.a9 (λd=>?_) _;refine Br.mc rfl (λu=>stepG_cond (t:=true) rfl) (λd=>?_) _;simp only [if_true,if_false,Bool.false_eq_true,↓reduceIte];refine Br.b8 (λd=>?_) _;refine Br.b9 (λd=>?_) _;simp only [Br.rz,Br.ix,Nat.reduceAdd];(iterate 2(refine Br.mo rfl rfl λd K' hK=>?_;go_simp;refine hK _ _ ⟨rfl,?_⟩;clear hK K'));refine Br.a9 (λd=>?_) _;refine Br.q8 (λd=>?_) _;exact Br.m8 (v:=.tuple #[.bool false,.int .i64 0]) rfl rfl Tryd.func18 (resultsC_tmp2 (t:=4) (u:=5) rfl _) (w:=w') (λd=>.stop (hx d)) _
  ·have hov:=b3F (Final:=Final) h2 (lmW.m.turn h3) hp (hN p hp) ho h4 (λq hq e o' ho'=>by
    obtain ⟨u,hu,he,hsl'⟩:=lm.live q hq o' ho';have eg:o'.gid≠v.C.o.gid:=λeg=>by
     rw [eg,hv] at hu;obtain rfl:=Option.some.inj hu;rw [hsl] at hsl';exact e (by exact_mod_cast hsl'.symm)
    exact ⟨u,by rw [ConcN.upd_ne _ _ eg];exact hu,he,hsl'⟩) fr cs (λw2 g cap hgn hco hz hk2 hlm=>hover p v hs hp hU hsl hv w2 Inb' val err g cap h1 (λk hM hex e=>by
    subst e;obtain ⟨m1,_⟩:=h3 k (mn k hM);rcases hgn with h|h
    ·exact hex (.inr (.inr h))
    ·have:=m1.lt;omega) hco (λk hM hex=>by
    obtain ⟨m1,m2⟩:=h3 k (mn k hM);have h0:=hk2 k m1.lt (λe=>hex (.inl e)) (λe=>hex (.inr (.inl e))) (λe=>hex (.inr (.inr e)))
    exact ⟨⟨Nat.lt_of_lt_of_le m1.lt hz,m1.nf,m1.ns,m1.nd,m1.own⟩,h0.trans (m2.trans (hgW.old k hM.lt))⟩) hlm)
   have hc:=h2.env.fit.clear;unfold a6l at hov;unfold b2O;simp only [Tryd.f18,pO] at *;rw [Frame.finish_at];refine Br.a0m (st:=true) ?_;show Must Tryd.prog true (DL true (sfO l)) _ _ (w'.at w'.drawn);generalize w'.drawn=dz;clear h3 h2;go_simp;refine Br.a9 (λd=>?_) _;refine Br.mc rfl (λu=>stepG_cond (t:=false) rfl) (λd=>?_) _;simp only [if_true,if_false,Bool.false_eq_true,↓reduceIte];refine Br.l9 (λd=>?_) _;exact hov _
 rw [b1h];unfold b2O at turn;simp only [a3X,Tryd.f18,Option.getD_some,pO] at *;refine Br.a0m (st:=true) ?_;show Must Tryd.prog true (DL true (sfO l)) _ _ (w.at w.drawn);generalize w.drawn=dz;refine Br.b8 (λd=>?_) _;refine Br.b9 (λd=>?_) _;simp only [Br.rz,Br.ix,Nat.reduceAdd];(iterate 2(refine Br.mo rfl rfl λd K' hK=>?_;go_simp;refine hK _ _ ⟨rfl,?_⟩;clear hK K'));refine Br.a9 (λd=>?_) _;refine Br.b8 (λd=>?_) _;refine Br.b8 (λd=>?_) _;refine Br.b9 (λd=>?_) _;simp only [Br.rz,Br.ix,Nat.reduceAdd];(iterate 2(refine Br.mo rfl rfl λd K' hK=>?_;go_simp;refine hK _ _ ⟨rfl,?_⟩;clear hK K'));refine Br.mc rfl (λu=>k6 rfl rfl (by decide) rfl Tryd.func40 rfl rfl (vs:=#[.pointer (some ⟨b.bl,0,none⟩),.int .i64 s]) (by simp [Act.eval]) u) (λd=>?_) _;refine (a2i co lm.m s _ _ d).then ?_;rintro g W ⟨rfl,hW⟩;have hc:=hW.clear;have lmW:=lm.m.grown hW;rw [Frame.finish_at,show W=W.at W.drawn from rfl];generalize W.drawn=dw
 cases hb:(decide (0<=s) && decide (s<(K.nS:Int))) with
 | false =>
  have hx:=λd=>hno hb (W.at d) (hW.at d);clear hno hnil hmore hover turn lmW;simp only [Act.put];go_simp;refine Br.mo rfl rfl λd K' hK=>?_;go_simp;refine hK _ _ ⟨rfl,?_⟩;clear hK K';refine Br.a9 (λd=>?_) _;refine Br.mc rfl (λu=>stepG_cond (t:=true) rfl) (λd=>?_) _;simp only [if_true,if_false,Bool.false_eq_true,↓reduceIte];refine Br.b8 (λd=>?_) _;refine Br.b9 (λd=>?_) _;simp only [Br.rz,Br.ix,Nat.reduceAdd];(iterate 2(refine Br.mo rfl rfl λd K' hK=>?_;go_simp;refine hK _ _ ⟨rfl,?_⟩;clear hK K'));refine Br.a9 (λd=>?_) _;refine Br.q8 (λd=>?_) _;exact Br.m8 (v:=.tuple #[.bool false,.int .i64 3]) rfl rfl Tryd.func18 (resultsC_tmp2 (t:=4) (u:=5) rfl _) (w:=W) (λd=>.stop (hx d)) _
 | true =>
  simp only [Bool.and_eq_true,decide_eq_true_eq] at hb;obtain ⟨p,rfl⟩:∃ p:Nat,s=p:=⟨s.toNat,by omega⟩;have hp:p<K.nS:=by omega
  have i0:(0:Int)<=(p:Int):=by omega
  have i1:(p:Int)<(K.nS:Int):=by omega
  have k1:=lmW.is.k1;have cu:=lmW.is.u.cell hp
  cases hU:U p with
  | none =>
   have hx:=λd=>hnil p rfl hp hU (W.at d) (hW.at d);rw [hU] at cu;have cu':W.cell? ⟨b.bu,p,none⟩=some (.pointer none):=cu;clear hno hnil hmore hover turn cu lmW;simp only [Act.put];go_simp;refine Br.mo rfl rfl λd K' hK=>?_;go_simp;refine hK _ _ ⟨rfl,?_⟩;clear hK K';refine Br.a9 (λd=>?_) _;refine Br.mc rfl (λu=>stepG_cond (t:=false) rfl) (λd=>?_) _;simp only [if_true,if_false,Bool.false_eq_true,↓reduceIte];refine Br.l9 (λd=>?_) _;refine Br.b8 (λd=>?_) _;refine Br.b9 (λd=>?_) _;simp only [Br.rz,Br.ix,Nat.reduceAdd];(iterate 3(refine Br.mo rfl rfl λd K' hK=>?_;go_simp;refine hK _ _ ⟨rfl,?_⟩;clear hK K'));refine Br.mo rfl rfl λd K' hK=>?_;have e1:(W.at d).cell? ⟨b.bl,1,none⟩=some (.slice (some ⟨b.bu,0,none⟩) K.nS K.nS):=k1;go_simp;refine hK _ _ ⟨rfl,?_⟩;clear hK K';(iterate 2(refine Br.mo rfl rfl λd K' hK=>?_;go_simp;refine hK _ _ ⟨rfl,?_⟩;clear hK K'));refine Br.mo rfl rfl λd K' hK=>?_;have e2:(W.at d).cell? ⟨b.bu,p,none⟩=some (.pointer none):=cu';go_simp;refine hK _ _ ⟨rfl,?_⟩;clear hK K';refine Br.mo rfl rfl λd K' hK=>?_;go_simp;refine hK _ _ ⟨rfl,?_⟩;clear hK K';refine Br.a9 (λd=>?_) _;refine Br.b8 (λd=>?_) _;refine Br.b8 (λd=>?_) _;refine Br.b9 (λd=>?_) _;simp only [Br.rz,Br.ix,Nat.reduceAdd];(iterate 2(refine Br.mo rfl rfl λd K' hK=>?_;go_simp;refine hK _ _ ⟨rfl,?_⟩;clear hK K'));refine Br.a9 (λd=>?_) _;refine Br.mc rfl (λu=>stepG_cond (t:=true) rfl) (λd=>?_) _;simp only [if_true,if_false,Bool.false_eq_true,↓reduceIte];refine Br.b8 (λd=>?_) _;refine Br.b9 (λd=>?_) _;simp only [Br.rz,Br.ix,Nat.reduceAdd];(iterate 2(refine Br.mo rfl rfl λd K' hK=>?_;go_simp;refine hK _ _ ⟨rfl,?_⟩;clear hK K'));refine Br.a9 (λd=>?_) _;refine Br.q8 (λd=>?_) _;exact Br.m8 (v:=.tuple #[.bool false,.int .i64 11]) rfl rfl Tryd.func18 (resultsC_tmp2 (t:=4) (u:=5) rfl _) (w:=W) (λd=>.stop (hx d)) _
  | some o =>
   have tn:=λd=>turn p o rfl hp hU W hW d;rw [hU] at cu;have cu':W.cell? ⟨b.bu,p,none⟩=some (.pointer (some ⟨o.bo,0,none⟩)):=cu;clear hno hnil hmore hover turn cu lmW;simp only [Act.put];go_simp;refine Br.mo rfl rfl λd K' hK=>?_;go_simp;refine hK _ _ ⟨rfl,?_⟩;clear hK K';refine Br.a9 (λd=>?_) _;refine Br.mc rfl (λu=>stepG_cond (t:=false) rfl) (λd=>?_) _;simp only [if_true,if_false,Bool.false_eq_true,↓reduceIte];refine Br.l9 (λd=>?_) _;refine Br.b8 (λd=>?_) _;refine Br.b9 (λd=>?_) _;simp only [Br.rz,Br.ix,Nat.reduceAdd];(iterate 3(refine Br.mo rfl rfl λd K' hK=>?_;go_simp;refine hK _ _ ⟨rfl,?_⟩;clear hK K'));refine Br.mo rfl rfl λd K' hK=>?_;have e1:(W.at d).cell? ⟨b.bl,1,none⟩=some (.slice (some ⟨b.bu,0,none⟩) K.nS K.nS):=k1;go_simp;refine hK _ _ ⟨rfl,?_⟩;clear hK K';(iterate 2(refine Br.mo rfl rfl λd K' hK=>?_;go_simp;refine hK _ _ ⟨rfl,?_⟩;clear hK K'));refine Br.mo rfl rfl λd K' hK=>?_;have e2:(W.at d).cell? ⟨b.bu,p,none⟩=some (.pointer (some ⟨o.bo,0,none⟩)):=cu';go_simp;refine hK _ _ ⟨rfl,?_⟩;clear hK K';refine Br.mo rfl rfl λd K' hK=>?_;go_simp;refine hK _ _ ⟨rfl,?_⟩;clear hK K';refine Br.a9 (λd=>?_) _;refine Br.b8 (λd=>?_) _;refine Br.b8 (λd=>?_) _;refine Br.b9 (λd=>?_) _;simp only [Br.rz,Br.ix,Nat.reduceAdd];(iterate 2(refine Br.mo rfl rfl λd K' hK=>?_;go_simp;refine hK _ _ ⟨rfl,?_⟩;clear hK K'));refine Br.a9 (λd=>?_) _;refine Br.mc rfl (λu=>stepG_cond (t:=false) rfl) (λd=>?_) _;simp only [if_true,if_false,Bool.false_eq_true,↓reduceIte];refine Br.l9 (λd=>?_) _;refine Br.b8 (λd=>?_) _;refine Br.b8 (λd=>?_) _;refine Br.b9 (λd=>?_) _;simp only [Br.rz,Br.ix,Nat.reduceAdd];refine Br.mo rfl rfl λd K' hK=>?_;go_simp;refine hK _ _ ⟨rfl,?_⟩;clear hK K';refine Br.mc rfl (λu=>k6 rfl rfl (by decide) rfl Tryd.func42 rfl rfl (vs:=#[.pointer (some ⟨o.bo,0,none⟩)]) (by simp [Act.eval]) u) (λd=>?_) _;exact .stop (tn _)
end
end Go.Proofs.YtcgabodkegcpgaaDoor
