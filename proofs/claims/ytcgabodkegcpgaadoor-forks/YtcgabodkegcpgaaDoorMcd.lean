/- Main begins an operation: the company grows. -/
import Derived.Test.YtcgabodkegcpgaaDoorOqo
set_option linter.unusedVariables false
set_option linter.unusedSimpArgs false
set_option maxHeartbeats 20000000
set_option maxRecDepth 100000
namespace Go.Proofs.YtcgabodkegcpgaaDoor
open Go.Conc Go.RowKit
open Br (OpD KO SO SP sfO Lk Fit Must DL Liv Clear X)
structure Grown (w w2:World):Prop where
 size:w.heap.size<=w2.heap.size
 old:∀ k,k<w.heap.size->w2.heap[k]?=w.heap[k]?
 clear:Clear w2
theorem Grown.at {w w2:World}(h:Grown w w2)(d:Nat):Grown w (w2.at d):=⟨h.size,h.old,h.clear⟩
theorem Grown.trans {a b c:World}(h:Grown a b)(k:Grown b c):Grown a c:=⟨Nat.le_trans h.size k.size,λi hi=>(k.old i (Nat.lt_of_lt_of_le hi h.size)).trans (h.old i hi),k.clear⟩
theorem Grown.refl {w:World}(h:Clear w):Grown w w:=⟨Nat.le_refl _,λ_ _=>rfl,h⟩
section
variable {kb:Kb} {l:List OpD} {K:Ker} {L:Nat->Option Lv} {r:Nat} {Inb:Nat->Option Seat} {nG:Nat} {w w2:World} {v:Lv} {Final:Machine->Trace->Prop}
theorem Env.grown {C:Ctx}(E:Env C l K w)(h:Grown w w2):Env C l K w2 :=
 ⟨E.rep.same h.size (λk hk _=>h.old k hk),E.tab.same (h.old 0 E.tab.lt),E.inv,⟨λi hi=>by
  obtain ⟨c,t,hc⟩:=E.fit.soft i hi
  exact ⟨c,t,by rw [h.old i (Array.getElem?_eq_some_iff.1 hc).1];exact hc⟩,h.clear⟩,λo ho=>by
  obtain ⟨c,t,h0,h1⟩:=E.ko o ho
  exact ⟨c,t,by rw [h.old _ (Br.KO.lt E.ko ho)];exact h0,h1⟩,E.ap⟩
theorem Env.more {C:Ctx}(E:Env C l K w){o:OpD}(hK:KO [o] w)(ho:∀ k,(k=C.bk\/k=C.bf\/k=C.bs\/k=C.bd\/k=0)->o.bo≠k):Env C (o::l) K w :=
 ⟨E.rep,E.tab,E.inv,⟨λi hi=>by
  obtain ⟨o',ho',rfl⟩:=Br.b1s hi;rcases List.mem_cons.1 ho' with rfl|ho'
  ·obtain ⟨c,t,h,_⟩:=hK _ (List.mem_singleton.2 rfl);exact ⟨c,t,h⟩
  ·exact E.fit.soft _ (by rw [Br.I9 ho'];omega),E.fit.clear⟩,λo' ho'=>by
  rcases List.mem_cons.1 ho' with rfl|ho'
  ·exact hK _ (List.mem_singleton.2 rfl)
  ·exact E.ko o' ho',λo' ho'=>by
  rcases List.mem_cons.1 ho' with rfl|ho'
  ·exact ⟨ho _ (by simp),ho _ (by simp),ho _ (by simp),ho _ (by simp),ho _ (by simp)⟩
  ·exact E.ap o' ho'⟩
theorem Co.pv_lt (co:Co kb l K L r Inb nG w){g:Nat}(h:L g=some v){i:Nat}(hi:i∈v.pv):i<w.heap.size:=by obtain ⟨f,n,A⟩:=co.at_ g v h;exact A.lt hi
theorem Co.ch_lt (co:Co kb l K L r Inb nG w){g:Nat}(h:L g=some v){c:Nat}(hc:v.ch c):c<w.heap.size:=by
 obtain ⟨⟨cap,k,h1⟩,_⟩:=co.chan g v h c hc;exact (Array.getElem?_eq_some_iff.1 h1).1
theorem Co.grown (co:Co kb l K L r Inb nG w)(h:Grown w w2):Co kb l K L r Inb nG w2 :=
 ⟨co.env.grown h,co.top,co.gid,co.onk,λg v hv=>by
  obtain ⟨f,n,A⟩:=co.at_ g v hv;exact ⟨f,n,A.other (A.env.grown h) λi hi=>h.old i (A.lt hi)⟩,co.wait,co.seat,co.none,λs c h1 h2=>Nat.lt_of_lt_of_le (co.main0 s c h1 h2) h.size,λg v hv c hc=>by
  obtain ⟨⟨cap,k,h1⟩,h2⟩:=co.chan g v hv c hc
  exact ⟨⟨cap,k,by rw [h.old c (co.ch_lt hv hc)];exact h1⟩,h2⟩,co.chne,co.pvch,co.apart⟩
theorem Co.at (co:Co kb l K L r Inb nG w)(d:Nat):Co kb l K L r Inb nG (w.at d):=co.grown ⟨Nat.le_refl _,λ_ _=>rfl,co.env.fit.clear⟩
theorem Co.less (co:Co kb l K L r Inb nG w){r':Nat}(h:r'<=r):Co kb l K L r' Inb nG w :=
 ⟨co.env,co.top,co.gid,co.onk,co.at_,λg v hv=>by
  obtain ⟨m,h1,h2⟩:=co.wait g v hv
  exact ⟨m,Nat.le_trans h h1,h2⟩,co.seat,co.none,co.main0,co.chan,co.chne,co.pvch,co.apart⟩
theorem Co.more (co:Co kb l K L r Inb nG w){o:OpD}(hK:KO [o] w)(ho:∀ k,(k=kb.bk\/k=kb.bf\/k=kb.bs\/k=kb.bd\/k=0)->o.bo≠k)(hc:∀ g v,L g=some v->(∀ i∈v.pv,o.bo≠i)/\∀ c,v.ch c->o.bo≠c):Co kb (o::l) K L r Inb nG w :=
 ⟨co.env.more hK ho,co.top,co.gid,co.onk,λg v hv=>by
  obtain ⟨f,n,A⟩:=co.at_ g v hv;refine ⟨f,n,(co.onk g v hv).env (co.env.more hK ho),List.mem_cons_of_mem _ A.mem,A.own,A.has,A.row,A.top,λi hi h0 o' ho'=>?_⟩;rcases List.mem_cons.1 ho' with rfl|ho'
  ·exact (hc g v hv).1 i hi
  ·exact A.far i hi h0 o' ho',co.wait,co.seat,co.none,co.main0,λg v hv c hc'=>by
  obtain ⟨h1,h2,h3,h4,h5,h6,h7⟩:=co.chan g v hv c hc';refine ⟨h1,h2,h3,h4,h5,h6,λo' ho'=>?_⟩;rcases List.mem_cons.1 ho' with rfl|ho'
  ·exact (hc g v hv).2 c hc'
  ·exact h7 o' ho',co.chne,co.pvch,co.apart⟩
structure New (B:Nat) (C:Ctx) (w:World):Prop where
 bo:B<=C.o.bo
 ch:B<=C.o.tu/\B<=C.o.to/\B<=C.o.en
 row:∃ t,w.heap[C.o.bo]?=some (.cells (I5 C 0 0 (.slice none 0 0) false false) t (0,0))
 chan:∀ c,c=C.o.tu\/c=C.o.to\/c=C.o.en->w.heap[c]?=some (.chan 0 #[] false 0 0 false)
 ne:C.o.tu≠C.o.to/\C.o.tu≠C.o.en/\C.o.to≠C.o.en
theorem New.chbo {B:Nat}{C:Ctx}(h:New B C w):C.o.bo≠C.o.tu/\C.o.bo≠C.o.to/\C.o.bo≠C.o.en:=by
 obtain ⟨t,hr⟩:=h.row;refine ⟨λe=>?_,λe=>?_,λe=>?_⟩<;>rw [e,h.chan _ (by simp)] at hr<;>cases hr
theorem New.ko {B:Nat}{C:Ctx}(h:New B C w):KO [C.o] w:=by
 intro o ho;obtain rfl:=List.mem_singleton.1 ho;obtain ⟨t,hr⟩:=h.row;exact ⟨_,t,hr,rfl,rfl,rfl⟩
theorem b8V (co0:Co kb l K L r Inb nG w)(hG:Grown w w2){C:Ctx}(hN:New w.heap.size C w2)(hO:OnK kb C)(hg:C.o.gid=nG)(h0:0<nG){p:Nat}(hC:C.slot=p)(hp:p<K.nS){a a':Goroutine}(hrun:a.status=.running)
  (hgo:∀ d,stepG Tryd.prog true a (w2.at d)=.spawn a' (born Tryd.prog (dcall 63 #[pO C.o])) (w2.at d) #[])
  (hx:∀ d H Inb',Co kb (C.o::l) K (ConcN.upd L nG (some ⟨C,A8 C p,[C.o.bo],H,[H6 C.o,bot]⟩)) r Inb' (nG+1) (w2.at d)->Kp kb L w (ConcN.upd L nG (some ⟨C,A8 C p,[C.o.bo],H,[H6 C.o,bot]⟩)) (w2.at d)->X Tryd.prog Final (C.o::l) Inb' (nG+1) 0 a' (w2.at d)) :
  X Tryd.prog Final (C.o::l) Inb nG 0 a w2:=by
 have R:=co0.env.rep;have lk:kb.bk<w.heap.size:=R.lk;have lf:kb.bf<w.heap.size:=R.lf;have ls:kb.bs<w.heap.size:=R.ls;have ld:kb.bd<w.heap.size:=R.ld;have l0:0<w.heap.size:=co0.env.tab.lt;have hbo:=hN.bo;obtain ⟨c1,c2,c3⟩:=hN.ch;obtain ⟨b1,b2,b3⟩:=hN.chbo;have cge:∀ c,c=C.o.tu\/c=C.o.to\/c=C.o.en->w.heap.size<=c:=λc hc=>by rcases hc with rfl|rfl|rfl<;>assumption
 have hone:∀ k,(k=kb.bk\/k=kb.bf\/k=kb.bs\/k=kb.bd\/k=0)->C.o.bo≠k:=λk hk e=>by rcases hk with rfl|rfl|rfl|rfl|rfl<;>omega
 have co1:Co kb (C.o::l) K L r Inb nG w2:=(co0.grown hG).more hN.ko hone (λg v hv=>⟨λi hi e=>by have:=co0.pv_lt hv hi;omega,λc hc e=>by have:=co0.ch_lt hv hc;omega⟩);have hln:L nG=none:=by
  cases e:L nG with
  | none=>rfl
  | some v=>have:=co0.gid _ _ e;omega
 have hIn:Inb nG=none:=co1.none nG (by omega) hln;have obo:∀ c,c=C.o.tu\/c=C.o.to\/c=C.o.en->∀ o∈C.o::l,o.bo≠c:=λc hc o ho e=>by
  rcases List.mem_cons.1 ho with rfl|ho
  ·rcases hc with rfl|rfl|rfl
   ·exact b1 e
   ·exact b2 e
   ·exact b3 e
  ·have:=Br.KO.lt co0.env.ko ho;have:=cge c hc;omega
 refine Br.c0I (nc:=34) hrun hgo (N1 C.o [H6 C.o,bot]) (b0t _ _ hN.ne.2.1) (λi s c hi hc hc'=>?_) (λc hc=>⟨0,0,hN.chan c (by rcases O0 hc with h|h;exact .inl h;exact .inr (.inr h))⟩) (λc hc=>obo c (by rcases O0 hc with h|h;exact .inl h;exact .inr (.inr h))) (λB hB=>b7j C.o _ (List.mem_cons_self ..) B hB) (λd=>?_)
 ·have hc2:w.heap.size<=c:=cge c (by rcases O0 hc' with h|h;exact .inl h;exact .inr (.inr h))
  by_cases e:i=0
  ·subst e;have:=co0.main0 s c hi hc;omega
  ·obtain ⟨u,hu,rfl⟩:=co0.inb e hi;have:=co0.ch_lt hu (c:=c) (by rcases O0 hc with h|h;exact .inl h;exact .inr (.inr h));omega
 ·have hrow:=hN.row;obtain ⟨t,hrow⟩:=hrow;have cases:∀ g u,ConcN.upd L nG (some (⟨C,A8 C p,[C.o.bo],λ_=>.cells (I5 C 0 0 (.slice none 0 0) false false) t (0,0),[H6 C.o,bot]⟩:Lv)) g=some u->(g=nG/\u=⟨C,A8 C p,[C.o.bo],λ_=>.cells (I5 C 0 0 (.slice none 0 0) false false) t (0,0),[H6 C.o,bot]⟩)\/(g≠nG/\L g=some u):=λg u h=>by
   by_cases e:g=nG
   ·subst e;rw [ConcN.upd_same] at h;exact .inl ⟨rfl,(Option.some.inj h).symm⟩
   ·rw [ConcN.upd_ne _ _ e] at h;exact .inr ⟨e,h⟩
  have hpv:∀ g u,L g=some u->C.o.bo ∉ u.pv:=λg u hu hi=>by have:=co0.pv_lt hu hi;omega
  have co2:=co1.at d;refine hx d (λ_=>.cells (I5 C 0 0 (.slice none 0 0) false false) t (0,0)) _ ⟨co2.env,co2.top,λg u h=>?_,λg u h=>?_,λg u h=>?_,λg u h=>?_,λg u h=>?_,λg hg0 h=>?_,λs c h1 h2=>?_,λg u h c hc=>?_,λg u h=>?_,λg u g' u' h h' c hc=>?_,λg u g' u' h h' hne=>?_⟩ (λk hM=>⟨⟨Nat.lt_of_lt_of_le hM.lt hG.size,hM.nf,hM.ns,hM.nd,λg u h=>?_⟩,hG.old k hM.lt⟩)
  ·rcases cases g u h with ⟨rfl,rfl⟩|⟨_,h5⟩
   ·exact ⟨hg,h0,by omega⟩
   ·have:=co2.gid g u h5;exact ⟨this.1,this.2.1,by omega⟩
  ·rcases cases g u h with ⟨rfl,rfl⟩|⟨_,h5⟩
   ·exact hO
   ·exact co2.onk g u h5
  ·rcases cases g u h with ⟨rfl,rfl⟩|⟨_,h5⟩
   ·refine ⟨.slice none 0 0,false,hO.env co2.env,List.mem_cons_self ..,⟨List.mem_cons_self ..,λi hi=>?_⟩,λi hi=>?_,⟨t,rfl⟩,by show 0≠C.bf/\0≠C.bs/\0≠C.bd;rw [hO.f,hO.s,hO.d];exact co2.top,λi hi h1=>?_⟩
    ·obtain rfl:=List.mem_singleton.1 hi;rw [hO.k,hO.f,hO.s,hO.d];exact ⟨hone _ (by simp),hone _ (by simp),hone _ (by simp),hone _ (by simp),hone _ (by simp)⟩
    ·obtain rfl:=List.mem_singleton.1 hi;exact hrow
    ·exact absurd (List.mem_singleton.1 hi) h1
   ·exact co2.at_ g u h5
  ·rcases cases g u h with ⟨rfl,rfl⟩|⟨_,h5⟩
   ·exact ⟨r,Nat.le_refl _,b2b r C hC hp _⟩
   ·exact co2.wait g u h5
  ·rcases cases g u h with ⟨rfl,rfl⟩|⟨e,h5⟩
   ·exact ConcN.upd_same _ _ _
   ·rw [ConcN.upd_ne _ _ e];exact co2.seat g u h5
  ·by_cases e:g=nG
   ·subst e;rw [ConcN.upd_same] at h;cases h
   ·rw [ConcN.upd_ne _ _ e] at h ⊢;exact co2.none g hg0 h
  ·rw [ConcN.upd_ne _ _ (by omega)] at h1;exact co2.main0 s c h1 h2
  ·rcases cases g u h with ⟨rfl,rfl⟩|⟨e,h5⟩
   ·have:=cge c hc;exact ⟨⟨0,0,hN.chan c hc⟩,by omega,by omega,by omega,by omega,by omega,obo c hc⟩
   ·exact co2.chan g u h5 c hc
  ·rcases cases g u h with ⟨rfl,rfl⟩|⟨e,h5⟩
   ·exact hN.ne
   ·exact co2.chne g u h5
  ·rcases cases g u h with ⟨rfl,rfl⟩|⟨e,h5⟩
   ·intro hi;obtain rfl:c=C.o.bo:=List.mem_singleton.1 hi;rcases cases g' u' h' with ⟨rfl,rfl⟩|⟨e',h6⟩
    ·exact obo _ hc C.o (List.mem_cons_self ..) rfl
    ·have:=co0.ch_lt h6 hc;omega
   ·rcases cases g' u' h' with ⟨rfl,rfl⟩|⟨e',h6⟩
    ·intro hi;have:=co0.pv_lt h5 hi;have:=cge c hc;omega
    ·exact co2.pvch g u g' u' h5 h6 c hc
  ·rcases cases g u h with ⟨rfl,rfl⟩|⟨e,h5⟩
   ·rcases cases g' u' h' with ⟨rfl,rfl⟩|⟨e',h6⟩
    ·exact absurd rfl hne
    ·refine ⟨λi hi hi'=>?_,λc hc hc'=>?_⟩
     ·obtain rfl:=List.mem_singleton.1 hi;exact hpv _ _ h6 hi'
     ·have:=co0.ch_lt h6 hc';have:=cge c hc;omega
   ·rcases cases g' u' h' with ⟨rfl,rfl⟩|⟨e',h6⟩
    ·refine ⟨λi hi hi'=>?_,λc hc hc'=>?_⟩
     ·obtain rfl:=List.mem_singleton.1 hi';exact hpv _ _ h5 hi
     ·have:=co0.ch_lt h5 hc;have:=cge c hc';omega
    ·exact co2.apart g u g' u' h5 h6 hne
  ·rcases cases g u h with ⟨rfl,rfl⟩|⟨e,h5⟩
   ·refine ⟨λhi=>?_,λhc=>?_⟩
    ·obtain rfl:=List.mem_singleton.1 hi;have:=hM.lt;omega
    ·have:=cge k hc;have:=hM.lt;omega
   ·exact hM.own g u h5
end
end Go.Proofs.YtcgabodkegcpgaaDoor
namespace Go.Proofs.YtcgabodkegcpgaaDoor
open Go.Conc Go.RowKit
open Br (X OpD KO SO SP sfO Lk Fit Must DL Liv Clear)
theorem a6k {main st:Bool}{sft:Nat->Nat}{Stop:Goroutine->World->Prop}{g:Goroutine}{w:World}{ob:Obj}{d:Nat}(hs:Br.Obj.sight ob)(hc:Clear w)(h:∀ W,Grown w W->W.heap[w.heap.size]?=some ob->W.heap.size=w.heap.size+1->∀ d,Must Tryd.prog main (DL st sft) Stop g (W.at d)):Must Tryd.prog main (DL st sft) Stop g ((w.at d).alloc ob) :=
 h (w.alloc ob) ⟨by simp,λk hk=>Below.heap_alloc w ob k hk,(Br.a0K hc.lk (o:=ob) hs).1.sight⟩ (heap_alloc_new w ob) (by simp) d
noncomputable def a2h (o:OpD)(cs:List Frame):Goroutine :=
 match Tryd.f42.body with
 | some (.seq _ (.seq (.region _ ops _) c))=>G ((base 42).at ⟨#[pO o,undef,.bool false,undef,undef,pO o,pO o,pO o,.chan (some o.tu),.agg #[],undef,undef,undef,undef,undef,undef,undef,undef,undef],[]⟩ [.inRegion ops [5],.code c]) cs
 | _=>default
noncomputable def a1F (o:OpD)(cs:List Frame):Goroutine :=
 match Tryd.f42.body with
 | some (.seq _ (.seq _ (.seq (.region _ ops _) c)))=>G ((base 42).at ⟨#[pO o,undef,.bool false,undef,undef,pO o,pO o,pO o,.chan (some o.tu),.agg #[],undef,pO o,pO o,.pointer (some ⟨o.bo,1,none⟩),.chan (some o.to),undef,undef,undef,undef],[]⟩ [.inRegion ops [4,5,6,7,8,9,10],.code c]) cs
 | _=>default
theorem b8W (o:OpD)(cs:List Frame)(w:World):stepG Tryd.prog true (a2h o cs) w=.comm (a2h o cs) #[scase o.tu (.agg #[]) (.tuple #[])] true .send w #[]:=by
 unfold a2h;simp only [Tryd.f42];rw [stepG_comm (cases:=#[scase o.tu (.agg #[]) (.tuple #[])]) (blocking:=true) (shape:=.send) (w':=w) rfl rfl (by decide) (by simp [go_sem,execOp,Act.eval,scase]),listed_none (by simp [go_sem,execOp,Act.eval])]
theorem c1I (o:OpD)(l:List OpD)(B:Nat)(cs:List Frame):AtIn Tryd.prog true (KO l) (SP l Br.no) B (E8 o.to true (a1F o cs)) (a1F o cs) (a1F o cs):=by
 unfold a1F;simp only [Tryd.f42];exact atIn_of (s:=E8 o.to true _) rfl rfl (by decide) (λw=>by simp [go_sem,execOp,rcase,Act.eval,E8,Seat.one]) (λw=>by simp [go_sem,execOp,Act.eval]) (by simp [E8,Seat.one])
theorem b8X (o:OpD)(l:List OpD)(ho:o∈l)(B:Nat)(hB:∀ o∈l,o.bo<B)(cs:List Frame):Sits Tryd.prog true (KO l) (SP l Br.no) B (E8 o.to true (a1F o cs)) 9 (Go.Conc.served (a2h o cs) undef):=by
 have hw:=c1I o l B cs;refine .inl ⟨8,default,rfl,?_⟩;unfold a2h;unfold a1F at *;simp only [Tryd.f42,served_fr] at *;rw [Frame.finish_at];refine Goes.step rfl (λw₁ h₁=>?_);rw [stepG_region_end];simp only [goes_go];refine ⟨ds_none _,?_⟩;clear h₁;refine Goes.step rfl (λw₁ h₁=>?_);rw [stepG_seq];simp only [goes_go];refine ⟨ds_none _,?_⟩;clear h₁;refine Goes.step rfl (λw₁ h₁=>?_);rw [stepG_region];simp only [goes_go,List.size_toArray,List.length_cons,List.length_nil,Nat.reduceAdd,Nat.zero_add,List.range,List.range.loop];refine ⟨ds_none _,?_⟩;clear h₁;refine Goes.step rfl (λw₁ h₁=>?_);refine goes_oper_k rfl rfl (by decide) (λK hK=>?_);go_simp;refine hK _ _ ⟨⟨rfl,λe he=>by (have hm:=mem_listed he;simp [go_sem] at hm)⟩,?_⟩;clear hK K h₁;refine Goes.step rfl (λw₁ h₁=>?_);refine goes_oper_k rfl rfl (by decide) (λK hK=>?_);go_simp;refine hK _ _ ⟨⟨rfl,λe he=>by (have hm:=mem_listed he;simp [go_sem] at hm)⟩,?_⟩;clear hK K h₁;refine Goes.step rfl (λw₁ h₁=>?_);refine goes_oper_k rfl rfl (by decide) (λK hK=>?_);go_simp;refine hK _ _ ⟨⟨rfl,λe he=>by (have hm:=mem_listed he;simp [go_sem] at hm)⟩,?_⟩;clear hK K h₁;refine Goes.step rfl (λw₁ h₁=>?_);refine goes_oper_k rfl rfl (by decide) (λK hK=>?_);have hf:=V8 h₁ ho;have hf0:=hf.1;have hf1:=hf.2.1;have hf2:=hf.2.2.1;have hfz:=hf.2.2.2;go_simp;refine hK _ _ ⟨⟨rfl,λe he=>by (have hm:=mem_listed he;simp [go_sem, *] at hm;subst hm;exact evC_read _ (.inl ⟨o,ho,1,by omega,rfl⟩) (hB o ho))⟩,?_⟩;clear hK K hf hf0 hf1 hf2 hfz h₁;exact Goes.stop λw₁ h₁=>⟨_,hw⟩
noncomputable def a1G:Code:=(Tryd.f42.body).getD .skip
theorem a8I (o:OpD):Frame.enter Tryd.prog 42 #[pO o] .normal=(base 42).at ⟨#[pO o,undef,undef,undef,undef,undef,undef,undef,undef,undef,undef,undef,undef,undef,undef,undef,undef,undef,undef],[]⟩ [.code a1G]:=by
 rw [enter_at (c:=a1G) _ Tryd.func42 rfl];refine congrArg (λt=>(base 42).at ⟨t,[]⟩ [.code a1G]) ?_
 kernel_rfl
section
variable {kb:Kb} {l:List OpD} {K:Ker} {L:Nat->Option Lv} {r:Nat} {Inb:Nat->Option Seat} {nG:Nat} {w:World} {v:Lv} {Final:Machine->Trace->Prop}
theorem b2M (co:Co kb l K L r Inb nG w)(o:OpD)(more:Bool)(fr:Frame)(cs:List Frame)(hx:∀ w',Grown w w'->X Tryd.prog Final l Inb nG 0 (G (fr.finish (.bool more)) cs) w') :
  X Tryd.prog Final l Inb nG 0 (Go.Conc.served (a1F o (fr::cs)) (a4v o.to true more)) w:=by
 have hb:a4v o.to true more=.tuple #[.agg #[],.bool more]:=by simp [a4v,commResult,rcase]
 rw [hb];unfold a1F;simp only [Tryd.f42,served_fr];rw [Frame.finish_at];refine Br.a0m (st:=true) ?_;show Must Tryd.prog true (DL true (sfO l)) _ _ (w.at w.drawn);generalize w.drawn=dz;have hc:=co.env.fit.clear;go_simp;(iterate 3(refine Br.mo rfl rfl λd K' hK=>?_;go_simp;refine hK _ _ ⟨rfl,?_⟩;clear hK K'));refine Br.t8 rfl rfl (by decide) (λd K' hK=>?_) _;go_simp;refine hK _ _ ⟨Br.L7 (λe he=>?_),?_⟩
 ·have hm:=mem_listed he;simp [go_sem] at hm
 clear hK K';refine a6k trivial hc (λW hg hX hz d=>?_);have hc2:=hg.clear;refine Br.t8 rfl rfl (by decide) (λd K' hK=>?_) _;go_simp;refine hK _ _ ⟨⟨.of_heap _ rfl,λe he=>?_,rfl⟩,?_⟩
 ·have hm:=mem_listed he;simp [go_sem] at hm
 clear hK K';refine Br.mo rfl rfl λd K' hK=>?_;go_simp;refine hK _ _ ⟨rfl,?_⟩;clear hK K';refine Br.a9 (λd=>?_) _;refine Br.b8 (λd=>?_) _;refine Br.b9 (λd=>?_) _;simp only [Br.rz,Br.ix,Nat.reduceAdd];(iterate 2(refine Br.mo rfl rfl λd K' hK=>?_;go_simp;refine hK _ _ ⟨rfl,?_⟩;clear hK K'));refine Br.a9 (λd=>?_) _;refine Br.q8 (λd=>?_) _;exact Br.m8 (v:=.bool more) rfl rfl Tryd.func42 (resultsC_tmp (t:=2) rfl _) (w:=W) (λd=>.stop (hx _ (hg.at d))) _
theorem a9U (co:Co kb l K L (r+1) Inb nG w){j:Nat}(hv:L j=some v)(fr:Frame)(cs:List Frame)
  (hmore:∀ w' v' Inb',v'.C=v.C->v'.S=(λ_=>(v.turn K).2)->(∃ n a b c,(v.turn K).2 []=.call n a b c)->Co kb l (v.turn K).1 (ConcN.upd L j (some v')) r Inb' nG w'->Kp kb L w (ConcN.upd L j (some v')) w'->X Tryd.prog Final l Inb' nG 0 (G (fr.finish (.bool true)) cs) w')
  (hover:∀ w' Inb' val err,(v.turn K).2 []=.done val err->Co kb l (v.turn K).1 (ConcN.upd L j none) r Inb' nG w'->Kp kb L w (ConcN.upd L j none) w'->(∃ t free un go,w'.heap[v.C.o.bo]?=some (.cells (I5 v.C err val free un go) t (0,0)))->X Tryd.prog Final l Inb' nG 0 (G (fr.finish (.bool false)) cs) w') :
  X Tryd.prog Final l Inb nG 0 (G (Frame.enter Tryd.prog 42 #[pO v.C.o] .normal) (fr::cs)) w:=by
 have hbo:v.C.o∈l:=by obtain ⟨f,n,A⟩:=co.at_ j v hv;exact A.mem
 have h0:=(V8 co.env.ko hbo).1;have turn:∀ d,X Tryd.prog Final l Inb nG 0 (a2h v.C.o (fr::cs)) (w.at d):=λd=>by
  refine b9t (co.at d) hv (rec:=a1F v.C.o (fr::cs)) (nh:=9) (by unfold a2h;simp only [Tryd.f42];rfl) (λd'=>b8W _ _ _) (λB hB=>b8X v.C.o l hbo B hB (fr::cs)) (λw' v' Inb' h1 h2 h3 h4 h5=>?_) (λw' Inb' val err h1 h2 h3 h4=>?_)
  ·exact b2M h4 v.C.o true fr cs (λw2 hg=>hmore w2 v' Inb' h1 h2 h3 (h4.grown hg) (λk hM=>by
    obtain ⟨m1,m2⟩:=h5 k ⟨hM.lt,hM.nf,hM.ns,hM.nd,hM.own⟩
    exact ⟨⟨Nat.lt_of_lt_of_le m1.lt hg.size,m1.nf,m1.ns,m1.nd,m1.own⟩,(hg.old k m1.lt).trans m2⟩))
  ·obtain ⟨t,f1,f2,f3,hr⟩:=h4
   exact b2M h2 v.C.o false fr cs (λw2 hg=>hover w2 Inb' val err h1 (h2.grown hg) (λk hM=>by
    obtain ⟨m1,m2⟩:=h3 k ⟨hM.lt,hM.nf,hM.ns,hM.nd,hM.own⟩
    exact ⟨⟨Nat.lt_of_lt_of_le m1.lt hg.size,m1.nf,m1.ns,m1.nd,m1.own⟩,(hg.old k m1.lt).trans m2⟩) ⟨t,f1,f2,f3,by rw [hg.old _ (Array.getElem?_eq_some_iff.1 hr).1];exact hr⟩)
 rw [a8I];unfold a2h at turn;simp only [a1G,Tryd.f42,Option.getD_some,pO] at *;refine Br.a0m (st:=true) ?_;show Must Tryd.prog true (DL true (sfO l)) _ _ (w.at w.drawn);generalize w.drawn=dz;have hc:=co.env.fit.clear;refine Br.b8 (λd=>?_) _;refine Br.b9 (λd=>?_) _;simp only [Br.rz,Br.ix,Nat.reduceAdd];refine Br.mo rfl rfl λd K' hK=>?_;go_simp;refine hK _ _ ⟨rfl,?_⟩;clear hK K';refine Br.a9 (λd=>?_) _;refine Br.b8 (λd=>?_) _;refine Br.b9 (λd=>?_) _;simp only [Br.rz,Br.ix,Nat.reduceAdd];(iterate 3(refine Br.mo rfl rfl λd K' hK=>?_;go_simp;refine hK _ _ ⟨rfl,?_⟩;clear hK K'));refine Br.mo rfl rfl λd K' hK=>?_;have e0:(w.at d).cell? ⟨v.C.o.bo,0,none⟩=some (.chan (some v.C.o.tu)):=h0;go_simp;refine hK _ _ ⟨rfl,?_⟩;clear hK K';refine Br.mo rfl rfl λd K' hK=>?_;go_simp;refine hK _ _ ⟨rfl,?_⟩;clear hK K';exact .stop (turn _)
end
section
variable {kb:Kb} {l:List OpD} {K:Ker} {L:Nat->Option Lv} {r:Nat} {Inb:Nat->Option Seat} {nG:Nat} {w:World} {v:Lv} {Final:Machine->Trace->Prop}
end
end Go.Proofs.YtcgabodkegcpgaaDoor
