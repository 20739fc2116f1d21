/- The bridge, first stone: a run in a world in which some cells are FROZEN (whoever stores there is stuck), and whose tape answers alike, is the run in the real world, which leaves these cells alone. -/
import Derived.Calls
import Derived.RunT
set_option linter.unusedVariables false
set_option linter.unusedSimpArgs false
set_option maxHeartbeats 20000000
set_option maxRecDepth 100000
namespace Go.Proofs.YtcgabodkegcpgaaDoor.Br
def Obj.sight:Obj->Prop
 | .view _ _=>False
 | .pending _ _=>False
 | _=>True
def a1b:Go.Obj:=.view ⟨0,0,some 0⟩ 0
def Bad:Halt->Prop
 | .stuck _=>True
 | .unsupported (.initOrder _)=>False
 | .unsupported _=>True
 | _=>False
def Q5 {α:Type}(P:Program):Sem α->Prop
 | .pure _=>False
 | .load _ _ _=>False
 | .store _ _ _ _=>False
 | .new _ _=>False
 | .shape _ k=>∀ s,Q5 P (k s)
 | .freeze _ _ _=>False
 | .frozen _ k=>∀ b,Q5 P (k b)
 | .getObj _ _=>False
 | .setObj _ _ _=>False
 | .choose _ k=>∀ n,Q5 P (k n)
 | .sys _ _=>False
 | .program k=>Q5 P (k P)
 | .mark m k=>(m=.noRoom\/∃ f,m=.extern f)/\m≠.enable/\Q5 P k
 | .halt h=>Bad h
theorem a5j {α β:Type}{P:Program}{e:Sem α}{f:α->Sem β}:Q5 P e->Q5 P (e.bind f):=by
 intro h
 induction e with
 | pure a=>exact h.elim
 | load m a k ih=>exact h.elim
 | store m a v k ih=>exact h.elim
 | new o k ih=>exact h.elim
 | shape r k ih=>exact λs=>ih s (h s)
 | freeze a n k ih=>exact h.elim
 | frozen a k ih=>exact λb=>ih b (h b)
 | getObj r k ih=>exact h.elim
 | setObj r o k ih=>exact h.elim
 | choose q k ih=>exact λn=>ih n (h n)
 | sys c k ih=>exact h.elim
 | program k ih=>exact ih P h
 | mark m k ih=>exact ⟨h.1,h.2.1,ih h.2.2⟩
 | halt x=>exact h
def a5u {α:Type}(P:Program):Sem α->Prop
 | .pure _=>True
 | .shape _ k=>∀ s,a5u P (k s)
 | .frozen _ k=>∀ b,a5u P (k b)
 | .choose _ k=>∀ n,a5u P (k n)
 | .program k=>a5u P (k P)
 | .mark m k=>(m=.noRoom\/∃ f,m=.extern f)/\m≠.enable/\a5u P k
 | .halt h=>Bad h
 | _=>False
theorem a7U {α β:Type}{P:Program}{e:Sem α}{f:α->Sem β}:a5u P e->(∀ a,a5u P (f a))->a5u P (e.bind f):=by
 intro h hf
 induction e with
 | pure a=>exact hf a
 | load m a k ih=>exact h.elim
 | store m a v k ih=>exact h.elim
 | new o k ih=>exact h.elim
 | shape r k ih=>exact λs=>ih s (h s)
 | freeze a n k ih=>exact h.elim
 | frozen a k ih=>exact λb=>ih b (h b)
 | getObj r k ih=>exact h.elim
 | setObj r o k ih=>exact h.elim
 | choose q k ih=>exact λn=>ih n (h n)
 | sys c k ih=>exact h.elim
 | program k ih=>exact ih P h
 | mark m k ih=>exact ⟨h.1,h.2.1,ih h.2.2⟩
 | halt x=>exact h
theorem a8G {α β:Type}{P:Program}{e:Sem α}{f:α->Sem β}:a5u P e->(∀ a,Q5 P (f a))->Q5 P (e.bind f):=by
 intro h hf
 induction e with
 | pure a=>exact hf a
 | load m a k ih=>exact h.elim
 | store m a v k ih=>exact h.elim
 | new o k ih=>exact h.elim
 | shape r k ih=>exact λs=>ih s (h s)
 | freeze a n k ih=>exact h.elim
 | frozen a k ih=>exact λb=>ih b (h b)
 | getObj r k ih=>exact h.elim
 | setObj r o k ih=>exact h.elim
 | choose q k ih=>exact λn=>ih n (h n)
 | sys c k ih=>exact h.elim
 | program k ih=>exact ih P h
 | mark m k ih=>exact ⟨h.1,h.2.1,ih h.2.2⟩
 | halt x=>exact h
def Let (h:Halt):Prop:=Bad h\/∃ v,h=.panic v
def E6 {α:Type}(P:Program)(W:Prop)(Φ:α->Prop):Sem α->Prop
 | .pure a=>Φ a
 | .load _ _ k=>∀ v,E6 P W Φ (k v)
 | .store _ _ _ k=>W/\E6 P W Φ k
 | .new o k=>Obj.sight o/\∀ r,E6 P W Φ (k r)
 | .shape _ k=>∀ s,E6 P W Φ (k s)
 | .freeze _ _ _=>False
 | .frozen _ k=>∀ b,Q5 P (k b)
 | .getObj _ k=>(∀ o,E6 P W Φ (k o))/\∀ o,¬ Obj.sight o->k o=k a1b\/Q5 P (k a1b)
 | .setObj _ _ _=>False
 | .choose _ k=>∀ n,E6 P W Φ (k n)
 | .sys _ _=>False
 | .program k=>E6 P W Φ (k P)
 | .mark m k=>(m=.noRoom\/∃ f,m=.extern f)/\m≠.enable/\E6 P W Φ k
 | .halt h=>Let h
theorem a4T {α β:Type}{P:Program}{W:Prop}{Ψ:α->Prop}{Φ:β->Prop}{e:Sem α}{f:α->Sem β}:E6 P W Ψ e->(∀ a,Ψ a->E6 P W Φ (f a))->E6 P W Φ (e.bind f):=by
 intro h hf
 induction e with
 | pure a=>exact hf a h
 | load m a k ih=>exact λv=>ih v (h v)
 | store m a v k ih=>exact ⟨h.1,ih h.2⟩
 | new o k ih=>exact ⟨h.1,λr=>ih r (h.2 r)⟩
 | shape r k ih=>exact λs=>ih s (h s)
 | freeze a n k ih=>exact h.elim
 | frozen a k ih=>exact λb=>a5j (h b)
 | getObj r k ih=>exact ⟨λo=>ih o (h.1 o),λo ho=>(h.2 o ho).imp (λe=>by show (k o).bind f=(k a1b).bind f;rw [e]) a5j⟩
 | setObj r o k ih=>exact h.elim
 | choose q k ih=>exact λn=>ih n (h n)
 | sys c k ih=>exact h.elim
 | program k ih=>exact ih P h
 | mark m k ih=>exact ⟨h.1,h.2.1,ih h.2.2⟩
 | halt x=>exact h
theorem U1 {α:Type}{P:Program}{W:Prop}{Φ:α->Prop}{e:Sem α}:Q5 P e->E6 P W Φ e:=by
 intro h
 induction e with
 | pure a=>exact h.elim
 | load m a k ih=>exact h.elim
 | store m a v k ih=>exact h.elim
 | new o k ih=>exact h.elim
 | shape r k ih=>exact λs=>ih s (h s)
 | freeze a n k ih=>exact h.elim
 | frozen a k ih=>exact h
 | getObj r k ih=>exact h.elim
 | setObj r o k ih=>exact h.elim
 | choose q k ih=>exact λn=>ih n (h n)
 | sys c k ih=>exact h.elim
 | program k ih=>exact ih P h
 | mark m k ih=>exact ⟨h.1,h.2.1,ih h.2.2⟩
 | halt x=>exact .inl h
def fz (n:Nat):Go.Obj->Go.Obj
 | .cells c t f=>.cells c t (if n=0 then f else (0,n))
 | .view _ _=>a1b
 | .pending _ _=>a1b
 | o=>o
def Clear (_:World):Prop:=True
structure Lk (sft:Nat->Nat) (v w:World):Prop where
 heap:∀ i:Nat,v.heap[i]?=(w.heap[i]?).map (fz (sft i))
 soft:∀ i:Nat,sft i≠0->∃ c t,w.heap[i]?=some (.cells c t (0,0))
 sight:Clear w
 os:v.os=w.os
 output:v.output=w.output
def Win (N:Nat)(v w:World):Prop:=∀ i q,i<N->v.tape (v.drawn+i) q=w.tape (w.drawn+i) q
def a7V (n:Nat)(o o':Go.Obj):Prop :=
 match o with
 | .cells c t f=>∃ c',o'=.cells c' t f/\c'.size=c.size/\∀ j<n,c'[j]?=c[j]?
 | _=>o'=o
theorem a7V.refl (n:Nat)(o:Go.Obj):a7V n o o:=by cases o<;>first|exact ⟨_,rfl,rfl,λ_ _=>rfl⟩|rfl
theorem a7V.trans {n:Nat}{a b c:Go.Obj}(h:a7V n a b)(h':a7V n b c):a7V n a c:=by
 cases a with
 | cells x t f =>
  obtain ⟨y,rfl,h1,h2⟩:=h;obtain ⟨z,rfl,h3,h4⟩:=h';exact ⟨z,rfl,h3.trans h1,λj hj=>(h4 j hj).trans (h2 j hj)⟩
 | _=>(have h:b=_:=h;subst h;exact h')
structure Kept (sft:Nat->Nat) (w w':World):Prop where
 same:∀ (i:Nat) (o:Go.Obj),w.heap[i]?=some o->∃ o',w'.heap[i]?=some o'/\a7V (sft i) o o'
 size:w.heap.size<=w'.heap.size
 new:∀ (i:Nat) (o:Go.Obj),w.heap.size<=i->w'.heap[i]?=some o->Obj.sight o
theorem a7V.sight {n:Nat}{o o':Go.Obj}(h:a7V n o o'):Obj.sight o'↔Obj.sight o:=by
 cases o with
 | cells c t f=>obtain ⟨c',rfl,_⟩:=h;exact Iff.rfl
 | _=>(have h:o'=_:=h;rw [h])
theorem Kept.of_heap (sft:Nat->Nat){w w':World}(h:w'.heap=w.heap):Kept sft w w':=⟨λ_ o ho=>⟨o,by rw [h];exact ho,.refl _ _⟩,by rw [h];exact Nat.le_refl _,λi o hi ho=>by
 rw [h] at ho;have:=(Array.getElem?_eq_some_iff.1 ho).1
 omega⟩
theorem Kept.refl (sft:Nat->Nat)(w:World):Kept sft w w:=.of_heap sft rfl
theorem Kept.trans {sft:Nat->Nat}{a b c:World}(h:Kept sft a b)(h':Kept sft b c):Kept sft a c :=
 ⟨λi o ho=>by obtain ⟨o',h1,h2⟩:=h.same i o ho;obtain ⟨o'',h3,h4⟩:=h'.same i o' h1;exact ⟨o'',h3,h2.trans h4⟩,Nat.le_trans h.size h'.size,λi o hi ho=>by
  rcases Nat.lt_or_ge i b.heap.size with g|g
  ·obtain ⟨o',h1,h2⟩:=h'.same i _ (Array.getElem?_eq_getElem g);rw [ho] at h1;obtain rfl:=Option.some.inj h1;exact h2.sight.2 (h.new i _ hi (Array.getElem?_eq_getElem g))
  ·exact h'.new i o g ho⟩
def Off (sft:Nat->Nat)(W:Prop)(n:Nat)(e:Event):Prop :=
 match e.loc with
 | .cell a=>a.block<n/\(e.write=true->sft a.block<=a.off/\W)
 | .obj r=>r<n/\e.write=false
 | .output=>False
 | .goroutines=>False
 | .mark m=>m=.noRoom\/∃ f,m=.extern f
theorem Off.more {sft:Nat->Nat}{W:Prop}{n n':Nat}{e:Event}(h:Off sft W n e)(hn:n<=n'):Off sft W n' e:=by
 unfold Off at *;split at h<;>first|exact ⟨Nat.lt_of_lt_of_le h.1 hn,h.2⟩|exact h|exact h.elim
def a0p (sft:Nat->Nat)(W:Prop)(n:Nat)(es es':Array Event):Prop:=∀ e∈es',e∈es\/Off sft W n e
theorem a0p.refl (sft:Nat->Nat)(W:Prop)(n:Nat)(es:Array Event):a0p sft W n es es:=λ_ h=>.inl h
theorem a0p.push {sft:Nat->Nat}{W:Prop}{n:Nat}{es:Array Event}{e:Event}(h:Off sft W n e):a0p sft W n es (es.push e):=λx hx=>by
 rcases Array.mem_push.1 hx with hx|rfl
 ·exact .inl hx
 ·exact .inr h
theorem a0p.pushC {sft:Nat->Nat}{W:Prop}{n:Nat}{es:Array Event}{a:Addr}{b c:Bool}(h:a.block<n)(h':b=true->sft a.block<=a.off/\W):a0p sft W n es (es.push ⟨.cell a,b,c⟩):=.push ⟨h,h'⟩
theorem a0p.pushO {sft:Nat->Nat}{W:Prop}{n:Nat}{es:Array Event}{r:Nat}{c:Bool}(h:r<n):a0p sft W n es (es.push ⟨.obj r,false,c⟩):=.push ⟨h,rfl⟩
theorem a0p.pushM {sft:Nat->Nat}{W:Prop}{n:Nat}{es:Array Event}{m:Mark}{b c:Bool}(h:m=.noRoom\/∃ f,m=.extern f):a0p sft W n es (es.push ⟨.mark m,b,c⟩):=.push h
theorem a0p.trans {sft:Nat->Nat}{W:Prop}{n n':Nat}{a b c:Array Event}(h:a0p sft W n a b)(h':a0p sft W n' b c)(hn:n<=n'):a0p sft W n' a c:=λx hx=>by
 rcases h' x hx with hx|hx
 ·exact (h x hx).imp id λz=>z.more hn
 ·exact .inr hx
def _root_.Go.Result.world {α:Type}:Result α->World
 | .ok _ w=>w
 | .halt _ w=>w
structure Drew (c:Nat) (v v' w w':World):Prop where
 tv:v'.tape=v.tape
 tw:w'.tape=w.tape
 dv:v'.drawn=v.drawn+c
 dw:w'.drawn=w.drawn+c
 ow:w'.os=w.os
 pw:w'.output=w.output
theorem Drew.zero (v w:World):Drew 0 v v w w:=⟨rfl,rfl,rfl,rfl,rfl,rfl⟩
theorem Drew.all {c:Nat}{v v' w w':World}(h:Drew c v v' w w'):(w'.tape,w'.os,w'.output)=(w.tape,w.os,w.output):=by rw [h.tw,h.ow,h.pw]
theorem Drew.trans {a b:Nat}{v v' v'' w w' w'':World}(h:Drew a v v' w w')(h':Drew b v' v'' w' w''):Drew (a+b) v v'' w w'' :=
 ⟨h'.tv.trans h.tv,h'.tw.trans h.tw,by rw [h'.dv,h.dv];omega,by rw [h'.dw,h.dw];omega,h'.ow.trans h.ow,h'.pw.trans h.pw⟩
inductive Out {α:Type} (sft:Nat->Nat) (W:Prop) (Φ:α->Prop) (v w:World) (es:Array Event):Result α × Array Event->Result α × Array Event->Prop where
 | ok {a:α} {v' w':World} {es':Array Event} {c:Nat}:Φ a->Lk sft v' w'->Kept sft w w'->a0p sft W w'.heap.size es es'->Drew c v v' w w'->Out sft W Φ v w es (.ok a v',es') (.ok a w',es')
 | panic {x:Value} {v' w':World} {es':Array Event} {c:Nat}:Lk sft v' w'->Kept sft w w'->a0p sft W w'.heap.size es es'->Drew c v v' w w'->Out sft W Φ v w es (.halt (.panic x) v',es') (.halt (.panic x) w',es')
 | lost {h:Halt} {v':World} {es':Array Event} {r:Result α × Array Event}:Bad h->Out sft W Φ v w es (.halt h v',es') r
theorem Out.after {α:Type}{sft:Nat->Nat}{W:Prop}{Φ:α->Prop}{v v₁ w w₁:World}{c:Nat}{es es₁:Array Event}{r r':Result α × Array Event}(hk:Kept sft w w₁)(hl:a0p sft W w₁.heap.size es es₁)(hd:Drew c v v₁ w w₁)(h:Out sft W Φ v₁ w₁ es₁ r r'):Out sft W Φ v w es r r':=by
 cases h with
 | ok p a b c d=>exact .ok p a (hk.trans b) (hl.trans c b.size) (hd.trans d)
 | panic a b c d=>exact .panic a (hk.trans b) (hl.trans c b.size) (hd.trans d)
 | lost b=>exact .lost b
section
variable {sft:Nat->Nat} {v w:World}
theorem Lk.cell (h:Lk sft v w)(a:Addr):v.cell? a=w.cell? a:=by
 simp only [World.cell?,h.heap]
 cases w.heap[a.block]? with
 | none=>rfl
 | some o =>
  cases o<;>rfl
theorem Lk.shape (h:Lk sft v w)(r:Nat):v.shape? r=w.shape? r:=by
 simp only [World.shape?,h.heap]
 cases w.heap[r]? with
 | none=>rfl
 | some o =>
  cases o<;>rfl
theorem Lk.size (h:Lk sft v w):v.heap.size=w.heap.size:=by
 have h1:∀ i,i<v.heap.size↔i<w.heap.size:=λi=>by
  have e:=h.heap i;constructor
  ·intro hi;rw [Array.getElem?_eq_getElem hi] at e;rcases Nat.lt_or_ge i w.heap.size with g|g
   ·exact g
   ·rw [Array.getElem?_eq_none g] at e;cases e
  ·intro hi;rw [Array.getElem?_eq_getElem hi] at e;rcases Nat.lt_or_ge i v.heap.size with g|g
   ·exact g
   ·rw [Array.getElem?_eq_none g] at e;cases e
 rcases Nat.lt_trichotomy v.heap.size w.heap.size with g|g|g
 ·exact absurd ((h1 _).2 g) (Nat.lt_irrefl _)
 ·exact g
 ·exact absurd ((h1 _).1 g) (Nat.lt_irrefl _)
theorem cell_lt {w:World}{a:Addr}{x:Value}(h:w.cell? a=some x):a.block<w.heap.size:=by
 unfold World.cell? at h;split at h
 ·next e=>exact (Array.getElem?_eq_some_iff.1 e).1
 ·cases h
theorem Lk.thaw (h:Lk sft v w){a:Addr}(ha:v.frozen? a=false):w.frozen? a=false/\(∀ x,w.cell? a=some x->sft a.block<=a.off):=by
 by_cases e:sft a.block=0
 ·constructor
  ·have:=h.heap a.block;simp only [World.frozen?,this] at ha ⊢
   cases x:w.heap[a.block]? with
   | none=>rfl
   | some o =>
    rw [x] at ha;cases o<;>first|rfl|(simp only [Option.map_some,fz,e,if_true] at ha;exact ha)
  ·intro _ _;omega
 ·obtain ⟨c,t,hc⟩:=h.soft _ e;constructor
  ·simp [World.frozen?,hc]
  ·intro x _;have:=h.heap a.block;simp only [World.frozen?,this,hc,Option.map_some,fz,if_neg e] at ha;simp at ha;omega
theorem a6g (p:Program)(w:World)(k:Addr)(b:Bool):World.seen p w ⟨0,0,some 0⟩ 0 k b=.error "memory seen as another type: a place without cells" := by
 unfold World.seen;have h:(k.spot.isSome || (⟨0,0,some 0⟩:Addr).spot.isSome)=true:=by simp
 rw [if_pos h];rfl
theorem b1c (p:Program)(w:World)(k:Addr)(b:Bool):∃ s,World.viewLoad p w ⟨0,0,some 0⟩ 0 k b=.error s:=by
 unfold World.viewLoad;rw [a6g];exact ⟨_,rfl⟩
theorem a9Q (p:Program)(w:World)(k:Addr)(y:Value)(b:Bool):∃ s,World.viewStore p w ⟨0,0,some 0⟩ 0 k y b=.error s:=by
 unfold World.viewStore;rw [a6g]
 by_cases h:(!tight p p.depth 0)=true
 ·rw [if_pos h];exact ⟨_,rfl⟩
 ·rw [if_neg h];exact ⟨_,rfl⟩
theorem Lk.farLoad (p:Program)(h:Lk sft v w)(a:Addr)(at_:Bool):∃ hh,v.farLoad p a at_=.error hh/\Bad hh:=by
 unfold World.farLoad World.noCell;rw [h.heap]
 cases x:w.heap[a.block]? with
 | none=>exact ⟨_,rfl,trivial⟩
 | some o =>
  cases o<;>first
   | exact ⟨_,rfl,trivial⟩
   | (obtain ⟨s,hs⟩:=b1c p v a at_;simp only [Option.map_some,fz,a1b,hs];exact ⟨_,rfl,trivial⟩)
theorem Lk.farStore (p:Program)(h:Lk sft v w)(a:Addr)(y:Value)(at_:Bool):∃ hh,v.farStore p a y at_=.error hh/\Bad hh:=by
 unfold World.farStore World.noCell;rw [h.heap]
 cases x:w.heap[a.block]? with
 | none=>exact ⟨_,rfl,trivial⟩
 | some o =>
  cases o<;>first
   | exact ⟨_,rfl,trivial⟩
   | (obtain ⟨s,hs⟩:=a9Q p v a y at_;simp only [Option.map_some,fz,a1b,hs];exact ⟨_,rfl,trivial⟩)
theorem heap_setCell (w:World)(a:Addr)(x:Value)(i:Nat):(w.setCell a x).heap[i]?=if a.block=i then (w.heap[i]?).map (λo=>match o with|.cells c elem frozen=>.cells (if a.spot.isSome then c else c.setIfInBounds a.off x) elem frozen|o=>o) else w.heap[i]?:=by
 simp only [World.setCell,Array.getElem?_modify];rfl
theorem F5 (h:Lk sft v w){a:Addr}(ha:sft a.block<=a.off)(x:Value):Lk sft (v.setCell a x) (w.setCell a x)/\Kept sft w (w.setCell a x):=by
 refine ⟨⟨λi=>?_,λi hi=>?_,trivial,h.os,h.output⟩,⟨λi o ho=>?_,?_,λi o hi ho=>?_⟩⟩
 ·rw [heap_setCell,heap_setCell,h.heap i];split
  ·cases w.heap[i]? with
   | none=>rfl
   | some o =>
    cases o<;>rfl
  ·rfl
 ·obtain ⟨c,t,hc⟩:=h.soft i hi;rw [heap_setCell,hc];split
  ·exact ⟨_,t,rfl⟩
  ·exact ⟨c,t,rfl⟩
 ·rw [heap_setCell];split
  ·rename_i e;rw [ho,Option.map_some];refine ⟨_,rfl,?_⟩
   cases o with
   | cells c t f =>
    refine ⟨_,rfl,?_,λj hj=>?_⟩
    ·split<;>simp
    ·split
     ·rfl
     ·rw [Array.getElem?_setIfInBounds_ne];subst e;omega
   | _=>exact rfl
  ·exact ⟨o,ho,.refl _ _⟩
 ·simp [World.setCell]
 ·have:=(Array.getElem?_eq_some_iff.1 ho).1;simp [World.setCell] at this;omega
theorem a0K (h:Lk sft v w){o:Go.Obj}(ho:Obj.sight o):Lk sft { v with heap:=v.heap.push o } { w with heap:=w.heap.push o }/\Kept sft w { w with heap:=w.heap.push o }:=by
 have hz:sft w.heap.size=0:=by
  by_cases e:sft w.heap.size=0
  ·exact e
  ·obtain ⟨c,t,hc⟩:=h.soft _ e;have:=(Array.getElem?_eq_some_iff.1 hc).1;omega
 refine ⟨⟨λi=>?_,λi hi=>?_,trivial,h.os,h.output⟩,⟨λi o' h1=>⟨o',?_,.refl _ _⟩,by simp,λi o' hi h1=>?_⟩⟩
 ·simp only [Array.getElem?_push,h.size,h.heap i];split
  ·rename_i e;subst e;rw [hz,Option.map_some]
   congr 1
   cases o<;>first|rfl|exact ho.elim|(simp [fz])
  ·rfl
 ·obtain ⟨c,t,hc⟩:=h.soft i hi;have hne:i≠w.heap.size:=λe=>by subst e;exact hi hz
  exact ⟨c,t,by simp only [Array.getElem?_push,if_neg hne];exact hc⟩
 ·have hne:i≠w.heap.size:=λe=>by have:=(Array.getElem?_eq_some_iff.1 h1).1;omega
  simp only [Array.getElem?_push,if_neg hne];exact h1
 ·simp only [Array.getElem?_push] at h1;split at h1
  ·obtain rfl:=Option.some.inj h1;exact ho
  ·have:=(Array.getElem?_eq_some_iff.1 h1).1;omega
end
theorem a3o {α:Type}(p:Program)(e:Sem α):∀ {v:World} (es:Array Event),Q5 p e->∃ h v' es',e.runT p v es=(.halt h v',es')/\Bad h:=by
 induction e with
 | pure a=>intro v es h;exact h.elim
 | load m a k ih=>intro v es h;exact h.elim
 | store m a x k ih=>intro v es h;exact h.elim
 | new o k ih=>intro v es h;exact h.elim
 | shape r k ih=>intro v es h;simp only [Sem.runT];exact ih _ _ (h _)
 | freeze a n k ih=>intro v es h;exact h.elim
 | frozen a k ih=>intro v es h;simp only [Sem.runT];exact ih _ _ (h _)
 | getObj r k ih=>intro v es h;exact h.elim
 | setObj r o k ih=>intro v es h;exact h.elim
 | choose q k ih =>
  intro v es h;simp only [Sem.runT];split
  ·exact ih _ _ (h _)
  ·exact ih _ _ (h _)
 | sys c k ih=>intro v es h;exact h.elim
 | program k ih=>intro v es h;simp only [Sem.runT];exact ih _ _ h
 | mark m k ih=>intro v es h;simp only [Sem.runT];exact ih _ h.2.2
 | halt x=>intro v es h;exact ⟨_,_,_,rfl,h⟩
theorem a1s {o:Go.Obj}(h:Obj.sight o):fz 0 o=o:=by cases o<;>first|rfl|exact h.elim
theorem a6h {n:Nat}{o x:Go.Obj}(h:fz n o=x)(hx:Obj.sight x):Obj.sight o:=by
 cases o<;>first|trivial|(rw [← h] at hx;exact hx.elim)
theorem c1B (n:Nat)(o:Go.Obj):fz 0 (fz n o)=fz n o:=by cases o<;>rfl
def b6l (w:World):World:={ w with heap:=w.heap.map (fz 0) }
theorem Clear.lk {w:World}(_:Clear w):Lk (λ_=>0) (b6l w) w :=
 ⟨λi=>by simp [b6l],λ_ h=>absurd rfl h,trivial,rfl,rfl⟩
theorem b8S {p:Program}{w:World}{at_ k:Addr}{u:TypeId}{b:Bool}{r:Array Value × TypeId × (Nat × Nat) × Nat × Value × List (Nat × Nat × List UInt8)}(h:w.seen p at_ u k b=.ok r):at_.block<w.heap.size:=by
 rcases Nat.lt_or_ge at_.block w.heap.size with g|g
 ·exact g
 ·exfalso;have hn:w.heap[at_.block]?=none:=Array.getElem?_eq_none g;unfold World.seen at h;simp only [hn,bind,Except.bind,pure,Except.pure,throw,throwThe,MonadExceptOf.throw] at h
  repeat' split at h
  all_goals cases h
theorem b1d {p:Program}{w:World}{a:Addr}{b:Bool}{x:Value}{t:List Addr}(h:w.farLoad p a b=.ok (x,t)):∀ y∈t,y.block<w.heap.size:=by
 unfold World.farLoad at h;split at h
 ·split at h
  ·rename_i _ at_ u hh _ r hr;obtain rfl:=Except.ok.inj h;unfold World.viewLoad at hr
   cases hs:w.seen p at_ u a b with
   | error s=>rw [hs] at hr;cases hr
   | ok q =>
    rw [hs] at hr;have hlt:=b8S hs;obtain ⟨q1,q2,q3,q4,q5,q6⟩:=q;simp only [bind,Except.bind,pure,Except.pure,throw,throwThe,MonadExceptOf.throw] at hr;split at hr
    ·obtain ⟨_,rfl⟩:=Prod.mk.inj (Except.ok.inj hr);intro y hy;obtain ⟨z,_,rfl⟩:=List.mem_map.1 hy;exact hlt
    ·cases hr
  ·cases h
 ·cases h
theorem a5k {p:Program}{w w':World}{a:Addr}{y:Value}{b:Bool}{t:List Addr}(h:w.farStore p a y b=.ok (w',t)):w'.drawn=w.drawn:=by
 unfold World.farStore at h;split at h
 ·split at h
  ·rename_i _ at_ u hh _ r hr;obtain rfl:=Except.ok.inj h;unfold World.viewStore at hr;simp only [bind,Except.bind,pure,Except.pure,throw,throwThe,MonadExceptOf.throw] at hr
   repeat' split at hr
   all_goals first
    | (cases hr;done)
    | (cases hr;rfl)
  ·cases h
 ·cases h
def c0z (h:Halt):Prop:=Bad h\/∃ g,h=.unsupported (.initOrder g)
theorem a9R {p:Program}{w:World}{a:Addr}{b:Bool}{hh:Halt}(h:w.farLoad p a b=.error hh):c0z hh:=by
 unfold World.farLoad at h;split at h
 ·split at h
  ·cases h
  ·obtain rfl:=Except.error.inj h;exact .inl trivial
 ·obtain rfl:=Except.error.inj h;unfold World.noCell;split
  ·exact .inr ⟨_,rfl⟩
  ·exact .inl trivial
  ·exact .inl trivial
theorem a8H {p:Program}{w:World}{a:Addr}{y:Value}{b:Bool}{hh:Halt}(h:w.farStore p a y b=.error hh):c0z hh:=by
 unfold World.farStore at h;split at h
 ·split at h
  ·cases h
  ·obtain rfl:=Except.error.inj h;exact .inl trivial
 ·obtain rfl:=Except.error.inj h;unfold World.noCell;split
  ·exact .inr ⟨_,rfl⟩
  ·exact .inl trivial
  ·exact .inl trivial
theorem b1e {α:Type}(p:Program)(e:Sem α)(W:Prop)(Φ:α->Prop):∀ (w:World) (es:Array Event),E6 p W Φ e->Clear w->w.drawn<=(e.runT p w es).1.world.drawn:=by
  induction e with
  | pure a=>intro w es _ _;exact Nat.le_refl _
  | load m a k ih =>
    intro w es h hc;simp only [Sem.runT];split
    · exact ih _ _ _ (h _) hc
    · split
      · exact ih _ _ _ (h _) hc
      · exact Nat.le_refl _
  | store m a x k ih =>
    intro w es h hc;cases x<;>simp only [Sem.runT]<;>first
      | exact Nat.le_refl _
      | (split
         · split
           · exact Nat.le_refl _
           · exact ih (w.setCell _ _) _ h.2 hc
         · split
           · rename_i w' t hs
             have e:=a5k hs;rw [← e];exact ih w' _ h.2 hc
           · exact Nat.le_refl _)
  | new o k ih=>intro w es h hc;simp only [Sem.runT];exact ih _ { w with heap:=w.heap.push o } _ (h.2 _) hc
  | shape r k ih=>intro w es h hc;simp only [Sem.runT];exact ih _ _ _ (h _) hc
  | freeze a n k ih=>intro w es h;exact h.elim
  | frozen a k ih =>
    intro w es h hc;simp only [Sem.runT];exact ih _ _ _ (U1 (h _)) hc
  | getObj r k ih =>
    intro w es h hc;simp only [Sem.runT];split
    · exact Nat.le_refl _
    · exact ih _ _ _ (h.1 _) hc
    · exact Nat.le_refl _
  | setObj r o k ih=>intro w es h;exact h.elim
  | choose q k ih =>
    intro w es h hc;simp only [Sem.runT];split
    · exact ih _ _ _ (h _) hc
    · exact Nat.le_trans (Nat.le_succ _) (ih _ { w with drawn:=w.drawn+1 } _ (h _) hc)
  | sys c k ih=>intro w es h;exact h.elim
  | program k ih=>intro w es h hc;simp only [Sem.runT];exact ih _ _ _ h hc
  | mark m k ih=>intro w es h hc;simp only [Sem.runT];exact ih _ _ h.2.2 hc
  | halt x=>intro w es _ _;exact Nat.le_refl _
theorem b6m {α:Type}(p:Program)(e:Sem α)(W:Prop)(Φ:α->Prop):∀ (w:World) (es:Array Event),E6 p W Φ e ->
    (∃ a w' es',e.runT p w es=(.ok a w',es')/\Φ a)\/(∃ x w' es',e.runT p w es=(.halt (.panic x) w',es'))\/∃ x w' es',e.runT p w es=(.halt x w',es')/\c0z x:=by
  induction e with
  | pure a=>intro w es h;exact .inl ⟨_,_,_,rfl,h⟩
  | load m a k ih =>
    intro w es h;simp only [Sem.runT];split
    · exact ih _ _ _ (h _)
    · split
      · exact ih _ _ _ (h _)
      · rename_i hs;exact .inr (.inr ⟨_,_,_,rfl,a9R hs⟩)
  | store m a x k ih =>
    intro w es h;cases x<;>simp only [Sem.runT]<;>first
      | exact .inr (.inr ⟨_,_,_,rfl,.inl trivial⟩)
      | (split
         · split
           · exact .inr (.inr ⟨_,_,_,rfl,.inl trivial⟩)
           · exact ih (w.setCell _ _) _ h.2
         · split
           · rename_i w' t hs
             exact ih w' _ h.2
           · rename_i hs;exact .inr (.inr ⟨_,_,_,rfl,a8H hs⟩))
  | new o k ih=>intro w es h;simp only [Sem.runT];exact ih _ { w with heap:=w.heap.push o } _ (h.2 _)
  | shape r k ih=>intro w es h;simp only [Sem.runT];exact ih _ _ _ (h _)
  | freeze a n k ih=>intro w es h;exact h.elim
  | frozen a k ih =>
    intro w es h;simp only [Sem.runT];exact ih _ _ _ (U1 (h _))
  | getObj r k ih =>
    intro w es h;simp only [Sem.runT];split
    · exact .inr (.inr ⟨_,_,_,rfl,.inl trivial⟩)
    · exact ih _ _ _ (h.1 _)
    · exact .inr (.inr ⟨_,_,_,rfl,.inl trivial⟩)
  | setObj r o k ih=>intro w es h;exact h.elim
  | choose q k ih =>
    intro w es h;simp only [Sem.runT];split
    · exact ih _ _ _ (h _)
    · exact ih _ { w with drawn:=w.drawn+1 } _ (h _)
  | sys c k ih=>intro w es h;exact h.elim
  | program k ih=>intro w es h;simp only [Sem.runT];exact ih _ _ _ h
  | mark m k ih=>intro w es h;simp only [Sem.runT];exact ih _ _ h.2.2
  | halt x=>intro w es h;rcases h with h|⟨v,rfl⟩;exact .inr (.inr ⟨_,_,_,rfl,.inl h⟩);exact .inr (.inl ⟨_,_,_,rfl⟩)
theorem Win.less {N N':Nat}{v w:World}(h:Win N v w)(hn:N'<=N):Win N' v w:=λi q hi=>h i q (by omega)
theorem b1f {α:Type}{sft:Nat->Nat}(p:Program)(e:Sem α)(W:Prop)(Φ:α->Prop):∀ {v w:World} (es:Array Event) (N:Nat),E6 p W Φ e->Lk sft v w->Win N v w->(e.runT p w es).1.world.drawn<=w.drawn+N->Out sft W Φ v w es (e.runT p v es) (e.runT p w es):=by
  induction e with
  | pure a=>intro v w es N ht h _ _;exact .ok ht h (.refl _ _) (.refl _ _ _ _) (.zero _ _)
  | load m a k ih =>
    intro v w es N ht h hw hN;simp only [Sem.runT,h.cell a] at hN ⊢
    cases hc:w.cell? a with
    | some x =>
      rw [hc] at hN;exact (ih x _ N (ht x) h hw hN).after (.refl _ _) (.pushC (cell_lt hc) (by simp)) (.zero _ _)
    | none =>
      obtain ⟨s,hs,hb⟩:=h.farLoad p a (m == .atomic);simp only [hs];exact .lost hb
  | store m a x k ih =>
    intro v w es N ht h hw hN;obtain ⟨s,hs,hb⟩:=h.farStore p a x (m == .atomic);have fin:∀ (y:Value) (b:Bool),w.cell? a=some y->v.frozen? a=false->(k.runT p (w.setCell a x) (es.push ⟨.cell a,true,b⟩)).1.world.drawn<=w.drawn+N ->
        Out sft W Φ v w es (k.runT p (v.setCell a x) (es.push ⟨.cell a,true,b⟩)) (k.runT p (w.setCell a x) (es.push ⟨.cell a,true,b⟩)):=by
      intro y b hc hf hN;obtain ⟨t1,t2⟩:=h.thaw hf;obtain ⟨h1,h2⟩:=F5 h (t2 y hc) x;exact Out.after (c:=0) (v₁:=v.setCell a x) (w₁:=w.setCell a x) h2 (.pushC (Nat.lt_of_lt_of_le (cell_lt hc) h2.size) λ_=>⟨t2 y hc,ht.1⟩) ⟨rfl,rfl,rfl,rfl,rfl,rfl⟩ (ih _ N ht.2 h1 hw hN)
    cases x<;>first
      | exact .lost trivial
      | (simp only [Sem.runT,h.cell a,hs] at hN ⊢
         cases hc:w.cell? a with
         | none=>exact .lost hb
         | some y =>
           rw [hc] at hN;simp only at hN ⊢
           cases hf:v.frozen? a with
           | true=>simp only [if_true];exact .lost trivial
           | false =>
             rw [(h.thaw hf).1] at hN ⊢;simp only [Bool.false_eq_true,if_false] at hN ⊢
             exact fin y _ hc hf hN)
  | new o k ih =>
    intro v w es N ht h hw hN;obtain ⟨h1,h2⟩:=a0K h ht.1;simp only [Sem.runT,h.size] at hN ⊢;exact Out.after (c:=0) (v₁:={ v with heap:=v.heap.push o }) (w₁:={ w with heap:=w.heap.push o }) h2 (.refl _ _ _ _) ⟨rfl,rfl,rfl,rfl,rfl,rfl⟩ (ih _ _ N (ht.2 _) h1 hw hN)
  | shape r k ih =>
    intro v w es N ht h hw hN;simp only [Sem.runT,h.shape] at hN ⊢;exact ih _ _ N (ht _) h hw hN
  | freeze a n k ih=>intro v w es N ht;exact ht.elim
  | frozen a k ih =>
    intro v w es N ht h hw hN;obtain ⟨hh,v',es',e1,hb⟩:=a3o p (k (v.frozen? a)) (v:=v) es (ht _);simp only [Sem.runT,e1];exact .lost hb
  | getObj r k ih =>
    intro v w es N ht h hw hN;simp only [Sem.runT,h.heap r] at hN ⊢
    cases hr:w.heap[r]? with
    | none=>exact .lost trivial
    | some o =>
      rw [hr] at hN;have hlt:=(Array.getElem?_eq_some_iff.1 hr).1
      cases o with
      | cells c t f=>exact .lost trivial
      | view a u =>
        have hN:(Sem.runT p (k (.view a u)) w (es.push ⟨.obj r,false,false⟩)).1.world.drawn<=w.drawn+N:=hN;show Out sft W Φ v w es (Sem.runT p (k a1b) v (es.push ⟨.obj r,false,false⟩)) (Sem.runT p (k (.view a u)) w (es.push ⟨.obj r,false,false⟩));rcases ht.2 (.view a u) id with e|e
        · rw [e] at hN ⊢
          exact (ih _ _ N (ht.1 _) h hw hN).after (.refl _ _) (.pushO hlt) (.zero _ _)
        · obtain ⟨hh,v',es',e1,hb⟩:=a3o p (k a1b) (v:=v) (es.push ⟨.obj r,false,false⟩) e
          rw [e1];exact .lost hb
      | pending c t =>
        have hN:(Sem.runT p (k (.pending c t)) w (es.push ⟨.obj r,false,false⟩)).1.world.drawn<=w.drawn+N:=hN;show Out sft W Φ v w es (Sem.runT p (k a1b) v (es.push ⟨.obj r,false,false⟩)) (Sem.runT p (k (.pending c t)) w (es.push ⟨.obj r,false,false⟩));rcases ht.2 (.pending c t) id with e|e
        · rw [e] at hN ⊢
          exact (ih _ _ N (ht.1 _) h hw hN).after (.refl _ _) (.pushO hlt) (.zero _ _)
        · obtain ⟨hh,v',es',e1,hb⟩:=a3o p (k a1b) (v:=v) (es.push ⟨.obj r,false,false⟩) e
          rw [e1];exact .lost hb
      | _=>exact (ih _ _ N (ht.1 _) h hw hN).after (.refl _ _) (.pushO hlt) (.zero _ _)
  | setObj r o k ih=>intro v w es N ht;exact ht.elim
  | choose q k ih =>
    intro v w es N ht h hw hN;simp only [Sem.runT] at hN ⊢;split
    · rename_i hq
      simp only [hq,if_true] at hN;exact ih _ _ N (ht _) h hw hN
    · rename_i hq
      simp only [hq,if_false] at hN;have hd:=b1e p (k (q.cut (w.tape w.drawn q))) W Φ { w with drawn:=w.drawn+1 } es (ht _) h.sight;have hN1:0<N:=by
        have:w.drawn+1<=w.drawn+N:=Nat.le_trans hd hN;omega
      have e:v.tape v.drawn q=w.tape w.drawn q:=hw 0 q hN1;have hw':Win (N - 1) { v with drawn:=v.drawn+1 } { w with drawn:=w.drawn+1 }:=λi q hi=>by
        have:=hw (i+1) q (by omega);simp only [Nat.add_assoc,Nat.add_comm 1 i];exact this
      rw [e];have h':Lk sft { v with drawn:=v.drawn+1 } { w with drawn:=w.drawn+1 }:=⟨h.heap,h.soft,h.sight,h.os,h.output⟩;exact Out.after (v₁:={ v with drawn:=v.drawn+1 }) (w₁:={ w with drawn:=w.drawn+1 }) (es₁:=es) (c:=1) (.of_heap _ rfl) (.refl _ _ _ _) ⟨rfl,rfl,rfl,rfl,rfl,rfl⟩
        (ih (q.cut (w.tape w.drawn q)) es (N - 1) (ht _) h' hw' (by
          have:(w.drawn+1)+(N - 1)=w.drawn+N:=by omega
          show _<=(w.drawn+1)+(N - 1)
          rw [this];exact hN))
  | sys c k ih=>intro v w es N ht;exact ht.elim
  | program k ih=>intro v w es N ht h hw hN;simp only [Sem.runT] at hN ⊢;exact ih _ _ N ht h hw hN
  | mark m k ih=>intro v w es N ht h hw hN;simp only [Sem.runT] at hN ⊢;exact (ih _ N ht.2.2 h hw hN).after (.refl _ _) (.pushM ht.1) (.zero _ _)
  | halt hh =>
    intro v w es N ht h _ _;rcases ht with hb|⟨x,rfl⟩
    · exact .lost hb
    · exact .panic h (.refl _ _) (.refl _ _ _ _) (.zero _ _)
end Go.Proofs.YtcgabodkegcpgaaDoor.Br
