/- A turn that main hands out comes back: the ring goes round. -/
import Derived.Test.YtcgabodkegcpgaaDoorOqo
set_option linter.unusedVariables false
set_option linter.unusedSimpArgs false
set_option maxHeartbeats 20000000
set_option maxRecDepth 100000
namespace Go.Proofs.YtcgabodkegcpgaaDoor
open Go.Conc Go.RowKit
open Br (OpD KO SO SP sfO Lk Fit Must DL Liv Clear X)
section
variable {kb:Kb} {l:List OpD} {K:Ker} {L:Nat→Option Lv} {r:Nat} {Inb:Nat→Option Seat} {nG:Nat} {w:World} {v:Lv} {Final:Machine→Trace→Prop}
def backRes (c:Nat)(ok more:Bool):Value:=commResult #[rcase c (.agg #[])] (.recv ok) ((0:Nat):Int) (.agg #[]) more
abbrev Lv.turn (v:Lv)(K:Ker):Ker × Strat:=run1 v.C.slot (v.S K) K
theorem co_turn (co:Co kb l K L (r+1) Inb nG w){j:Nat}(hv:L j=some v){a a₂ rec:Goroutine}{z':Value}{nh:Nat}(hrun:a.status=.running)
  (hsend:∀ d,stepG Tryd.prog true a (w.at d)=.comm a₂ #[scase v.C.o.tu (.agg #[]) z'] true .send (w.at d) #[])
  (hsit:∀ B,(∀ o∈l,o.bo<B)→Sits Tryd.prog true (KO l) (SP l Br.no) B (toldSeat v.C.o.to true rec) nh (Go.Conc.served a₂ undef))
  (hmore:∀ w' v' Inb',v'.C=v.C→v'.S=(fun _=>(v.turn K).2)→(∃ n a b c,(v.turn K).2 []=.call n a b c)→Co kb l (v.turn K).1 (ConcN.upd L j (some v')) r Inb' nG w'→Kp kb L w (ConcN.upd L j (some v')) w'→X Tryd.prog Final l Inb' nG 0 (Go.Conc.served rec (backRes v.C.o.to true true)) w')
  (hover:∀ w' Inb' val err,(v.turn K).2 []=.done val err→Co kb l (v.turn K).1 (ConcN.upd L j none) r Inb' nG w'→Kp kb L w (ConcN.upd L j none) w'→(∃ t free un go,w'.heap[v.C.o.bo]?=some (.cells (oRow v.C err val free un go) t (0,0)))→X Tryd.prog Final l Inb' nG 0 (Go.Conc.served rec (backRes v.C.o.to true false)) w') :
  X Tryd.prog Final l Inb nG 0 a w:=by
 obtain ⟨hg,hj0,hjn⟩:=co.gid j v hv
 obtain ⟨n1,n2,n3⟩:=co.chne j v hv
 have hjb:(j == 0)=false:=by simp;omega
 have htu:v.ch v.C.o.tu:=.inl rfl
 have hto:v.ch v.C.o.to:=.inr (.inl rfl)
 have hen:v.ch v.C.o.en:=.inr (.inr rfl)
 have tune:=co.chan_ne hv htu
 have tone:=co.chan_ne hv hto
 have enne:=co.chan_ne hv hen
 obtain ⟨free,un,A⟩:=co.at_ j v hv
 obtain ⟨m,hm,W⟩:=co.wait j v hv
 have hO:=co.onk j v hv
 have tupv:=co.pvch j v j v hv hv _ htu
 have topv:=co.pvch j v j v hv hv _ hto
 have enpv:=co.pvch j v j v hv hv _ hen
 refine co_sit co hv true rec a ?_
 have hI0:ConcN.upd Inb 0 (some (toldSeat v.C.o.to true rec)) 0=some (toldSeat v.C.o.to true rec):=ConcN.upd_same _ _ _
 have hIj:ConcN.upd Inb 0 (some (toldSeat v.C.o.to true rec)) j=some (seatO v.C.o v.cs):=by rw [ConcN.upd_ne _ _ (by omega)];exact co.seat j v hv
 have hIi:∀ i,i≠0→ConcN.upd Inb 0 (some (toldSeat v.C.o.to true rec)) i=Inb i:=fun i hi=>ConcN.upd_ne _ _ hi
 refine Br.x_give (h:=0) (j:=j) (kk:=0) (z:=.agg #[]) (by omega) hjn hIj rfl hrun hsend hI0 hsit (fun g₂ d cap k hhome hc=>?_)
 obtain rfl:g₂=waitRec v.C.o v.cs:=hhome
 rw [res_turn]
 have ltu:v.C.o.tu<w.heap.size:=(Array.getElem?_eq_some_iff.1 hc).1
 have hw1:∀ i,i≠v.C.o.tu→((w.at d).setChan v.C.o.tu cap #[] false (k+1) (k+1) false).heap[i]?=w.heap[i]?:=fun i hi=>heap_chan_ne hi
 have hz1:((w.at d).setChan v.C.o.tu cap #[] false (k+1) (k+1) false).heap.size=w.heap.size:=by simp [World.setChan,World.at]
 have hc1:((w.at d).setChan v.C.o.tu cap #[] false (k+1) (k+1) false).heap[v.C.o.tu]?=some (.chan cap #[] false (k+1) (k+1) false):=heap_chan (w:=w.at d) ltu
 have A1:At v.C l K v.pv v.H free un false ((w.at d).setChan v.C.o.tu cap #[] false (k+1) (k+1) false):=A.other ((A.env.at d).chan tune cap #[] false (k+1) (k+1) false) (fun i hi=>hw1 i (fun e=>tupv (e▸hi)))
 generalize (w.at d).setChan v.C.o.tu cap #[] false (k+1) (k+1) false=w1 at *
 have hmust:=W.1 l K free un w1 w1.drawn rfl A1
 refine Br.x_must (st:=true) ?_
 rw [hjb]
 refine hmust.then ?_
 rintro g w2 ⟨E2,M2,hst⟩
 refine .stop ?_
 have hk2:∀ i,i<w.heap.size→i ∉ v.pv→i≠kb.bf→i≠kb.bs→i≠kb.bd→i≠v.C.o.tu→w2.heap[i]?=w.heap[i]?:=fun i h0 h1 h2 h3 h4 h5=>by
  rw [M2.block i (by omega) h1 (by rw [hO.f];exact h2) (by rw [hO.s];exact h3) (by rw [hO.d];exact h4)];exact hw1 i h5
 have hz2:w.heap.size≤w2.heap.size:=by have:=M2.size;omega
 obtain ⟨⟨cen,ken,hen'⟩,_⟩:=co.chan j v hv _ hen
 obtain ⟨⟨cto,kto,hto'⟩,_⟩:=co.chan j v hv _ hto
 have lto:v.C.o.to<w.heap.size:=(Array.getElem?_eq_some_iff.1 hto').1
 have len:v.C.o.en<w.heap.size:=(Array.getElem?_eq_some_iff.1 hen').1
 have tu2:w2.heap[v.C.o.tu]?=some (.chan cap #[] false (k+1) (k+1) false):=by rw [M2.block _ (by omega) tupv tune.2.1 tune.2.2.1 tune.2.2.2.1];exact hc1
 have en2:w2.heap[v.C.o.en]?=some (.chan cen #[] false ken ken false):=by rw [M2.block _ (by omega) enpv enne.2.1 enne.2.2.1 enne.2.2.2.1,hw1 _ (Ne.symm n2)];exact hen'
 have to2:w2.heap[v.C.o.to]?=some (.chan cto #[] false kto kto false):=by rw [M2.block _ (by omega) topv tone.2.1 tone.2.2.1 tone.2.2.2.1,hw1 _ (Ne.symm n1)];exact hto'
 have bk0:w2.heap[kb.bk]?=w.heap[kb.bk]?:=hk2 _ co.env.rep.lk (fun h=>by have:=(A.own.ap _ h).1;rw [hO.k] at this;exact this rfl) co.env.rep.kf co.env.rep.ks co.env.rep.kd (fun e=>by have:=tune.1;rw [hO.k] at this;exact this e.symm)
 have bkto:kb.bk≠v.C.o.to:=fun e=>by have:=tone.1;rw [hO.k] at this;exact this e.symm
 have after:∀ (cl:Bool) (cap2 k2 d2:Nat) (o:Option Lv) (Inb':Nat→Option Seat),(∀ i,i≠0→i≠j→Inb' i=Inb i)→(o=none→Inb' j=none)→(∀ s c,Inb' 0=some s→s.has c→c<w.heap.size) →
   (∀ v',o=some v'→v'.C=v.C∧(∃ free un,At v'.C l (v.turn K).1 v'.pv v'.H free un false w2)∧(∃ m,r≤m∧Wait m K.nS v')∧Inb' j=some (seatO v'.C.o v'.cs)∧(∀ i∈v'.pv,i∈v.pv∨w1.heap.size≤i)∧cl=false) →
   Co kb l (v.turn K).1 (ConcN.upd L j o) r Inb' nG ((w2.at d2).setChan v.C.o.to cap2 #[] cl k2 k2 false)∧Kp kb L w (ConcN.upd L j o) ((w2.at d2).setChan v.C.o.to cap2 #[] cl k2 k2 false):=by
  intro cl cap2 k2 d2 o Inb' hI hn h00 hj
  have hsz3:w.heap.size≤((w2.at d2).setChan v.C.o.to cap2 #[] cl k2 k2 false).heap.size:=by simp [World.setChan,World.at];exact hz2
  have hne3:∀ i,i≠v.C.o.to→((w2.at d2).setChan v.C.o.to cap2 #[] cl k2 k2 false).heap[i]?=w2.heap[i]?:=fun i hi=>heap_chan_ne hi
  have hE3:EnvK kb l (v.turn K).1 ((w2.at d2).setChan v.C.o.to cap2 #[] cl k2 k2 false):=hO.back ((E2.at d2).chan tone cap2 #[] cl k2 k2 false)
  have hnS:(v.turn K).1.nS=K.nS:=(sizes_of co.env.rep hE3.rep (by show _=w.heap[kb.bk]?;rw [show (kc kb).bk=kb.bk from rfl,hne3 _ bkto];exact bk0)).2.1
  refine co_after (Nat.le_succ r) co hv (w2:=w2) hE3 hnS (by simp [World.setChan,World.at];exact hz2) (fun i h0 h1 h2 h3 h4 h5=>?_) (fun v' e=>?_) (fun s c h1 h2=>Nat.lt_of_lt_of_le (h00 s c h1 h2) hsz3) hn hI
  ·rw [hne3 i (fun e=>h5 (e▸hto))]
   exact hk2 i h0 h1 h2 h3 h4 (fun e=>h5 (e▸htu))
  ·obtain ⟨e1,⟨f2,u2,A2⟩,hw,hs,hp,rfl⟩:=hj v' e
   have hto3:∀ i∈v'.pv,i≠v.C.o.to:=fun i hi e=>by
    rcases hp i hi with h|h
    ·exact topv (e▸h)
    ·omega
   refine ⟨e1,⟨f2,u2,A2.other (by rw [e1];exact (E2.at d2).chan tone cap2 #[] false k2 k2 false) (fun i hi=>hne3 i (hto3 i hi))⟩,by rw [hnS];exact hw,hs,fun i hi=>by rcases hp i hi with h|h;exact .inl h;exact .inr (by omega),fun c hc=>?_⟩
   rcases hc with rfl|rfl|rfl
   ·exact ⟨_,_,by rw [hne3 _ n1];exact tu2⟩
   ·exact ⟨_,_,heap_chan (w:=w2.at d2) (Nat.lt_of_lt_of_le lto hz2)⟩
   ·exact ⟨_,_,by rw [hne3 _ (Ne.symm n3)];exact en2⟩
 cases hT:(v.turn K).2 [] with
 | call num a b c =>
  simp only [Lv.turn] at hT
  rw [hT] at hst
  obtain ⟨cs',pv',H',free',rfl,A2,hsub,hpark⟩:=hst
  have hfr:∀ i s' c,i≠j→ConcN.upd Inb 0 (some (toldSeat v.C.o.to true rec)) i=some s'→s'.has c→¬ (seatO v.C.o (nextFr v.C.o::cs')).has c:=fun i s' c hi hs hc hc'=>by
   have hc2:=seatO_has hc'
   by_cases e:i=0
   ·subst e
    rw [hI0] at hs
    obtain rfl:=Option.some.inj hs
    obtain rfl:c=v.C.o.to:=Seat.one_has.1 hc
    rcases hc2 with h|h
    ·exact n1 h.symm
    ·exact n3 h
   ·rw [hIi i e] at hs
    obtain ⟨u,hu,rfl⟩:=co.inb e hs
    have hc3:=seatO_has hc
    exact (co.apart i u j v hu hv hi).2 c (by rcases hc3 with h|h;exact .inl h;exact .inr (.inr h)) (by rcases hc2 with h|h;exact .inl h;exact .inr (.inr h))
  refine Br.x_reseat (h:=j) (seatO v.C.o (nextFr v.C.o::cs')) (seatO_wf _ _ n2) hfr (fun c hc=>?_) (fun c hc=>?_) ?_
  ·rcases seatO_has hc with rfl|rfl
   ·exact ⟨_,_,tu2⟩
   ·exact ⟨_,_,en2⟩
  ·rcases seatO_has hc with rfl|rfl
   ·exact tune.2.2.2.2.2
   ·exact enne.2.2.2.2.2
  refine Br.x_give (h:=j) (j:=0) (kk:=0) (c:=v.C.o.to) (z:=.agg #[]) (s:=toldSeat v.C.o.to true rec) (sh:=seatO v.C.o (nextFr v.C.o::cs')) (v:=.agg #[]) (z':=.tuple #[]) (a₂:=sendG v.C.o cs') (nh:=26) (by omega) (by omega) (by rw [ConcN.upd_ne _ _ (by omega)];exact hI0) rfl rfl
   (fun d=>by rw [hjb];exact told_send _ _ _) (ConcN.upd_same _ _ _) (fun B hB=>by rw [hjb];exact told_sits v.C.o l A.mem B hB cs') (fun g₂ d2 cap2 k2 hhome hc2=>?_)
  obtain rfl:g₂=rec:=hhome
  obtain ⟨m',rfl⟩:∃ m',m=m'+1:=⟨m - 1,by omega⟩
  obtain ⟨c3,k3⟩:=after false cap2 (k2+1) d2 (some ⟨v.C,fun _=>(v.turn K).2,pv',H',nextFr v.C.o::cs'⟩) (ConcN.upd (ConcN.upd Inb 0 (some (toldSeat v.C.o.to true g₂))) j (some (seatO v.C.o (nextFr v.C.o::cs'))))
   (fun i h0 h1=>by rw [ConcN.upd_ne _ _ h1,ConcN.upd_ne _ _ h0]) (fun e=>by cases e) (fun s c h1 h2=>by
    rw [ConcN.upd_ne _ _ (by omega),ConcN.upd_same] at h1
    obtain rfl:=Option.some.inj h1
    obtain rfl:c=v.C.o.to:=Seat.one_has.1 h2
    exact lto)
   (fun v' e=>by obtain rfl:=Option.some.inj e;exact ⟨rfl,⟨free',false,A2⟩,⟨m',by omega,wait_park hpark⟩,ConcN.upd_same _ _ _,hsub,rfl⟩)
  exact hmore _ ⟨v.C,fun _=>(v.turn K).2,pv',H',nextFr v.C.o::cs'⟩ _ rfl rfl ⟨_,_,_,_,hT⟩ c3 k3
 | done val err =>
  simp only [Lv.turn] at hT
  rw [hT] at hst
  obtain ⟨⟨hrun2,hwake,a',ha',hclose,nq,hq⟩,t,f2,u2,g2,hrow⟩:=hst
  refine Br.x_last (h:=j) (j:=0) (kk:=0) (c:=v.C.o.to) (z:=.agg #[]) (s:=toldSeat v.C.o.to true rec) (nh:=nq) (by omega) (by omega) (by omega) hI0 rfl hrun2 hwake ha' to2 (fun d=>by rw [hjb];exact hclose _ _ _ to2) hq (fun g₂ d2 hhome=>?_)
  obtain rfl:g₂=rec:=hhome
  obtain ⟨c3,k3⟩:=after true cto kto d2 none (ConcN.upd (ConcN.upd (ConcN.upd Inb 0 (some (toldSeat v.C.o.to true g₂))) 0 none) j none)
   (fun i h0 h1=>by rw [ConcN.upd_ne _ _ h1,ConcN.upd_ne _ _ h0,ConcN.upd_ne _ _ h0]) (fun _=>ConcN.upd_same _ _ _) (fun s c h1 h2=>by rw [ConcN.upd_ne _ _ (by omega),ConcN.upd_same] at h1;cases h1) (fun v' e=>by cases e)
  exact hover _ _ val err hT c3 k3 ⟨t,f2,u2,g2,by rw [heap_chan_ne (tone.2.2.2.2.2 _ A.mem)];exact hrow⟩
theorem co_cancel (co:Co kb l K L r Inb nG w){j:Nat}(hv:L j=some v){a a₂ rec:Goroutine}{nh:Nat}(hrun:a.status=.running)(hwake:mayWake Tryd.prog a=true)(ha₂:a₂.status=.running)
  (hclose:∀ cap k,w.heap[v.C.o.en]?=some (.chan cap #[] false k k false)→∀ d,stepG Tryd.prog true a (w.at d)=.go a₂ ((w.at d).setChan v.C.o.en cap #[] true k k false) (closeEvents v.C.o.en))
  (hsit:∀ B,(∀ o∈l,o.bo<B)→Sits Tryd.prog true (KO l) (SP l Br.no) B (toldSeat v.C.o.to false rec) nh a₂)
  (hover:∀ w' Inb',Co kb l K (ConcN.upd L j none) r Inb' nG w'→Kp kb L w (ConcN.upd L j none) w'→X Tryd.prog Final l Inb' nG 0 (Go.Conc.served rec (backRes v.C.o.to false false)) w') :
  X Tryd.prog Final l Inb nG 0 a w:=by
 obtain ⟨hg,hj0,hjn⟩:=co.gid j v hv
 obtain ⟨n1,n2,n3⟩:=co.chne j v hv
 have hjb:(j == 0)=false:=by simp;omega
 have htu:v.ch v.C.o.tu:=.inl rfl
 have hto:v.ch v.C.o.to:=.inr (.inl rfl)
 have hen:v.ch v.C.o.en:=.inr (.inr rfl)
 have tone:=co.chan_ne hv hto
 have enne:=co.chan_ne hv hen
 obtain ⟨free,un,A⟩:=co.at_ j v hv
 obtain ⟨m,hm,W⟩:=co.wait j v hv
 have hO:=co.onk j v hv
 have topv:=co.pvch j v j v hv hv _ hto
 have enpv:=co.pvch j v j v hv hv _ hen
 refine co_sit co hv false rec a ?_
 have hI0:ConcN.upd Inb 0 (some (toldSeat v.C.o.to false rec)) 0=some (toldSeat v.C.o.to false rec):=ConcN.upd_same _ _ _
 have hIj:ConcN.upd Inb 0 (some (toldSeat v.C.o.to false rec)) j=some (seatO v.C.o v.cs):=by rw [ConcN.upd_ne _ _ (by omega)];exact co.seat j v hv
 obtain ⟨⟨cap,k,hc⟩,_⟩:=co.chan j v hv _ hen
 obtain ⟨⟨cto,kto,hto'⟩,_⟩:=co.chan j v hv _ hto
 have lto:v.C.o.to<w.heap.size:=(Array.getElem?_eq_some_iff.1 hto').1
 refine Br.x_shut (h:=0) (j:=j) (kk:=1) (z:=.agg #[]) (by omega) hjn hIj rfl hrun hwake ha₂ hc (hclose _ _ hc) hI0 hsit (fun g₂ d hhome=>?_)
 obtain rfl:g₂=waitRec v.C.o v.cs:=hhome
 rw [res_end]
 have hw1:∀ i,i≠v.C.o.en→((w.at d).setChan v.C.o.en cap #[] true k k false).heap[i]?=w.heap[i]?:=fun i hi=>heap_chan_ne hi
 have hz1:((w.at d).setChan v.C.o.en cap #[] true k k false).heap.size=w.heap.size:=by simp [World.setChan,World.at]
 have A1:At v.C l K v.pv v.H free un false ((w.at d).setChan v.C.o.en cap #[] true k k false):=A.other ((A.env.at d).chan enne cap #[] true k k false) (fun i hi=>hw1 i (fun e=>enpv (e▸hi)))
 generalize (w.at d).setChan v.C.o.en cap #[] true k k false=w1 at *
 have hmust:=W.2 l K free un w1 w1.drawn A1
 refine Br.x_must (st:=true) ?_
 rw [hjb]
 refine hmust.then ?_
 rintro g w2 ⟨E2,M2,hrun2,hwake2,a',ha',hclose2,nq,hq⟩
 refine .stop ?_
 have hk2:∀ i,i<w.heap.size→i ∉ v.pv→i≠kb.bf→i≠kb.bs→i≠kb.bd→i≠v.C.o.en→w2.heap[i]?=w.heap[i]?:=fun i h0 h1 h2 h3 h4 h5=>by
  rw [M2.block i (by omega) h1 (by rw [hO.f];exact h2) (by rw [hO.s];exact h3) (by rw [hO.d];exact h4)];exact hw1 i h5
 have hz2:w.heap.size≤w2.heap.size:=by have:=M2.size;omega
 have to2:w2.heap[v.C.o.to]?=some (.chan cto #[] false kto kto false):=by rw [M2.block _ (by omega) topv tone.2.1 tone.2.2.1 tone.2.2.2.1,hw1 _ n3];exact hto'
 refine Br.x_last (h:=j) (j:=0) (kk:=0) (c:=v.C.o.to) (z:=.agg #[]) (s:=toldSeat v.C.o.to false rec) (nh:=nq) (by omega) (by omega) (by omega) (by rw [ConcN.upd_ne _ _ (by omega)];exact hI0) rfl hrun2 hwake2 ha' to2 (fun d=>by rw [hjb];exact hclose2 _ _ _ to2) hq (fun g₂ d2 hhome=>?_)
 obtain rfl:g₂=rec:=hhome
 have hne3:∀ i,i≠v.C.o.to→((w2.at d2).setChan v.C.o.to cto #[] true kto kto false).heap[i]?=w2.heap[i]?:=fun i hi=>heap_chan_ne hi
 have hE3:EnvK kb l K ((w2.at d2).setChan v.C.o.to cto #[] true kto kto false):=hO.back ((E2.at d2).chan tone cto #[] true kto kto false)
 obtain ⟨c3,k3⟩:=co_after (Nat.le_refl r) co hv (w2:=w2) (o:=none) (Inb':=ConcN.upd (ConcN.upd (ConcN.upd (ConcN.upd Inb 0 (some (toldSeat v.C.o.to false g₂))) j none) 0 none) j none) hE3 rfl (by simp [World.setChan,World.at];exact hz2) (fun i h0 h1 h2 h3 h4 h5=>by
   rw [hne3 i (fun e=>h5 (e▸hto))]
   exact hk2 i h0 h1 h2 h3 h4 (fun e=>h5 (e▸hen))) (fun v' e=>by cases e) (fun s c h1 h2=>by rw [ConcN.upd_ne _ _ (by omega),ConcN.upd_same] at h1;cases h1) (fun _=>ConcN.upd_same _ _ _)
   (fun i h0 h1=>by rw [ConcN.upd_ne _ _ h1,ConcN.upd_ne _ _ h0,ConcN.upd_ne _ _ h1,ConcN.upd_ne _ _ h0])
 exact hover _ _ c3 k3
end
structure Grown (w w2:World):Prop where
 size:w.heap.size≤w2.heap.size
 old:∀ k,k<w.heap.size→w2.heap[k]?=w.heap[k]?
 clear:Clear w2
theorem Grown.at {w w2:World}(h:Grown w w2)(d:Nat):Grown w (w2.at d):=⟨h.size,h.old,h.clear⟩
theorem Grown.trans {a b c:World}(h:Grown a b)(k:Grown b c):Grown a c:=⟨Nat.le_trans h.size k.size,fun i hi=>(k.old i (Nat.lt_of_lt_of_le hi h.size)).trans (h.old i hi),k.clear⟩
theorem Grown.refl {w:World}(h:Clear w):Grown w w:=⟨Nat.le_refl _,fun _ _=>rfl,h⟩
section
variable {kb:Kb} {l:List OpD} {K:Ker} {L:Nat→Option Lv} {r:Nat} {Inb:Nat→Option Seat} {nG:Nat} {w w2:World} {v:Lv} {Final:Machine→Trace→Prop}
theorem Env.grown {C:Ctx}(E:Env C l K w)(h:Grown w w2):Env C l K w2 :=
 ⟨E.rep.same h.size (fun k hk _=>h.old k hk),E.tab.same (h.old 0 E.tab.lt),E.inv,⟨fun i hi=>by
  obtain ⟨c,t,hc⟩:=E.fit.soft i hi
  exact ⟨c,t,by rw [h.old i (Array.getElem?_eq_some_iff.1 hc).1];exact hc⟩,h.clear⟩,fun o ho=>by
  obtain ⟨c,t,h0,h1⟩:=E.ko o ho
  exact ⟨c,t,by rw [h.old _ (Br.KO.lt E.ko ho)];exact h0,h1⟩,E.ap⟩
theorem Env.more {C:Ctx}(E:Env C l K w){o:OpD}(hK:KO [o] w)(ho:∀ k,(k=C.bk∨k=C.bf∨k=C.bs∨k=C.bd∨k=0)→o.bo≠k):Env C (o::l) K w :=
 ⟨E.rep,E.tab,E.inv,⟨fun i hi=>by
  obtain ⟨o',ho',rfl⟩:=Br.sfO_ne hi
  rcases List.mem_cons.1 ho' with rfl|ho'
  ·obtain ⟨c,t,h,_⟩:=hK _ (List.mem_singleton.2 rfl)
   exact ⟨c,t,h⟩
  ·exact E.fit.soft _ (by rw [Br.sfO_mem ho'];omega),E.fit.clear⟩,fun o' ho'=>by
  rcases List.mem_cons.1 ho' with rfl|ho'
  ·exact hK _ (List.mem_singleton.2 rfl)
  ·exact E.ko o' ho',fun o' ho'=>by
  rcases List.mem_cons.1 ho' with rfl|ho'
  ·exact ⟨ho _ (by simp),ho _ (by simp),ho _ (by simp),ho _ (by simp),ho _ (by simp)⟩
  ·exact E.ap o' ho'⟩
theorem Co.pv_lt (co:Co kb l K L r Inb nG w){g:Nat}(h:L g=some v){i:Nat}(hi:i∈v.pv):i<w.heap.size:=by obtain ⟨f,n,A⟩:=co.at_ g v h;exact A.lt hi
theorem Co.ch_lt (co:Co kb l K L r Inb nG w){g:Nat}(h:L g=some v){c:Nat}(hc:v.ch c):c<w.heap.size:=by
 obtain ⟨⟨cap,k,h1⟩,_⟩:=co.chan g v h c hc
 exact (Array.getElem?_eq_some_iff.1 h1).1
theorem Co.grown (co:Co kb l K L r Inb nG w)(h:Grown w w2):Co kb l K L r Inb nG w2 :=
 ⟨co.env.grown h,co.top,co.gid,co.onk,fun g v hv=>by
  obtain ⟨f,n,A⟩:=co.at_ g v hv
  exact ⟨f,n,A.other (A.env.grown h) fun i hi=>h.old i (A.lt hi)⟩,co.wait,co.seat,co.none,fun s c h1 h2=>Nat.lt_of_lt_of_le (co.main0 s c h1 h2) h.size,fun g v hv c hc=>by
  obtain ⟨⟨cap,k,h1⟩,h2⟩:=co.chan g v hv c hc
  exact ⟨⟨cap,k,by rw [h.old c (co.ch_lt hv hc)];exact h1⟩,h2⟩,co.chne,co.pvch,co.apart⟩
theorem Co.at (co:Co kb l K L r Inb nG w)(d:Nat):Co kb l K L r Inb nG (w.at d):=co.grown ⟨Nat.le_refl _,fun _ _=>rfl,co.env.fit.clear⟩
theorem Co.less (co:Co kb l K L r Inb nG w){r':Nat}(h:r'≤r):Co kb l K L r' Inb nG w :=
 ⟨co.env,co.top,co.gid,co.onk,co.at_,fun g v hv=>by
  obtain ⟨m,h1,h2⟩:=co.wait g v hv
  exact ⟨m,Nat.le_trans h h1,h2⟩,co.seat,co.none,co.main0,co.chan,co.chne,co.pvch,co.apart⟩
theorem Co.more (co:Co kb l K L r Inb nG w){o:OpD}(hK:KO [o] w)(ho:∀ k,(k=kb.bk∨k=kb.bf∨k=kb.bs∨k=kb.bd∨k=0)→o.bo≠k)(hc:∀ g v,L g=some v→(∀ i∈v.pv,o.bo≠i)∧∀ c,v.ch c→o.bo≠c):Co kb (o::l) K L r Inb nG w :=
 ⟨co.env.more hK ho,co.top,co.gid,co.onk,fun g v hv=>by
  obtain ⟨f,n,A⟩:=co.at_ g v hv
  refine ⟨f,n,(co.onk g v hv).env (co.env.more hK ho),List.mem_cons_of_mem _ A.mem,A.own,A.has,A.row,A.top,fun i hi h0 o' ho'=>?_⟩
  rcases List.mem_cons.1 ho' with rfl|ho'
  ·exact (hc g v hv).1 i hi
  ·exact A.far i hi h0 o' ho',co.wait,co.seat,co.none,co.main0,fun g v hv c hc'=>by
  obtain ⟨h1,h2,h3,h4,h5,h6,h7⟩:=co.chan g v hv c hc'
  refine ⟨h1,h2,h3,h4,h5,h6,fun o' ho'=>?_⟩
  rcases List.mem_cons.1 ho' with rfl|ho'
  ·exact (hc g v hv).2 c hc'
  ·exact h7 o' ho',co.chne,co.pvch,co.apart⟩
structure New (B:Nat) (C:Ctx) (w:World):Prop where
 bo:B≤C.o.bo
 ch:B≤C.o.tu∧B≤C.o.to∧B≤C.o.en
 row:∃ t,w.heap[C.o.bo]?=some (.cells (oRow C 0 0 (.slice none 0 0) false false) t (0,0))
 chan:∀ c,c=C.o.tu∨c=C.o.to∨c=C.o.en→w.heap[c]?=some (.chan 0 #[] false 0 0 false)
 ne:C.o.tu≠C.o.to∧C.o.tu≠C.o.en∧C.o.to≠C.o.en
theorem New.chbo {B:Nat}{C:Ctx}(h:New B C w):C.o.bo≠C.o.tu∧C.o.bo≠C.o.to∧C.o.bo≠C.o.en:=by
 obtain ⟨t,hr⟩:=h.row
 refine ⟨fun e=>?_,fun e=>?_,fun e=>?_⟩<;>rw [e,h.chan _ (by simp)] at hr<;>cases hr
theorem New.ko {B:Nat}{C:Ctx}(h:New B C w):KO [C.o] w:=by
 intro o ho
 obtain rfl:=List.mem_singleton.1 ho
 obtain ⟨t,hr⟩:=h.row
 exact ⟨_,t,hr,rfl,rfl,rfl⟩
theorem co_born (co0:Co kb l K L r Inb nG w)(hG:Grown w w2){C:Ctx}(hN:New w.heap.size C w2)(hO:OnK kb C)(hg:C.o.gid=nG)(h0:0<nG){p:Nat}(hC:C.slot=p)(hp:p<K.nS){a a':Goroutine}(hrun:a.status=.running)
  (hgo:∀ d,stepG Tryd.prog true a (w2.at d)=.spawn a' (born Tryd.prog (dcall 63 #[pO C.o])) (w2.at d) #[])
  (hx:∀ d H Inb',Co kb (C.o::l) K (ConcN.upd L nG (some ⟨C,opStrat C p,[C.o.bo],H,[runFr C.o,bot]⟩)) r Inb' (nG+1) (w2.at d)→Kp kb L w (ConcN.upd L nG (some ⟨C,opStrat C p,[C.o.bo],H,[runFr C.o,bot]⟩)) (w2.at d)→X Tryd.prog Final (C.o::l) Inb' (nG+1) 0 a' (w2.at d)) :
  X Tryd.prog Final (C.o::l) Inb nG 0 a w2:=by
 have R:=co0.env.rep
 have lk:kb.bk<w.heap.size:=R.lk
 have lf:kb.bf<w.heap.size:=R.lf
 have ls:kb.bs<w.heap.size:=R.ls
 have ld:kb.bd<w.heap.size:=R.ld
 have l0:0<w.heap.size:=co0.env.tab.lt
 have hbo:=hN.bo
 obtain ⟨c1,c2,c3⟩:=hN.ch
 obtain ⟨b1,b2,b3⟩:=hN.chbo
 have cge:∀ c,c=C.o.tu∨c=C.o.to∨c=C.o.en→w.heap.size≤c:=fun c hc=>by rcases hc with rfl|rfl|rfl<;>assumption
 have hone:∀ k,(k=kb.bk∨k=kb.bf∨k=kb.bs∨k=kb.bd∨k=0)→C.o.bo≠k:=fun k hk e=>by rcases hk with rfl|rfl|rfl|rfl|rfl<;>omega
 have co1:Co kb (C.o::l) K L r Inb nG w2:=(co0.grown hG).more hN.ko hone (fun g v hv=>⟨fun i hi e=>by have:=co0.pv_lt hv hi;omega,fun c hc e=>by have:=co0.ch_lt hv hc;omega⟩)
 have hln:L nG=none:=by
  cases e:L nG with
  | none=>rfl
  | some v=>have:=co0.gid _ _ e;omega
 have hIn:Inb nG=none:=co1.none nG (by omega) hln
 have obo:∀ c,c=C.o.tu∨c=C.o.to∨c=C.o.en→∀ o∈C.o::l,o.bo≠c:=fun c hc o ho e=>by
  rcases List.mem_cons.1 ho with rfl|ho
  ·rcases hc with rfl|rfl|rfl
   ·exact b1 e
   ·exact b2 e
   ·exact b3 e
  ·have:=Br.KO.lt co0.env.ko ho;have:=cge c hc;omega
 refine Br.x_hire (nc:=34) hrun hgo (seatO C.o [runFr C.o,bot]) (seatO_wf _ _ hN.ne.2.1) (fun i s c hi hc hc'=>?_) (fun c hc=>⟨0,0,hN.chan c (by rcases seatO_has hc with h|h;exact .inl h;exact .inr (.inr h))⟩) (fun c hc=>obo c (by rcases seatO_has hc with h|h;exact .inl h;exact .inr (.inr h))) (fun B hB=>run_sits C.o _ (List.mem_cons_self ..) B hB) (fun d=>?_)
 ·have hc2:w.heap.size≤c:=cge c (by rcases seatO_has hc' with h|h;exact .inl h;exact .inr (.inr h))
  by_cases e:i=0
  ·subst e
   have:=co0.main0 s c hi hc
   omega
  ·obtain ⟨u,hu,rfl⟩:=co0.inb e hi
   have:=co0.ch_lt hu (c:=c) (by rcases seatO_has hc with h|h;exact .inl h;exact .inr (.inr h))
   omega
 ·have hrow:=hN.row
  obtain ⟨t,hrow⟩:=hrow
  have cases:∀ g u,ConcN.upd L nG (some (⟨C,opStrat C p,[C.o.bo],fun _=>.cells (oRow C 0 0 (.slice none 0 0) false false) t (0,0),[runFr C.o,bot]⟩:Lv)) g=some u→(g=nG∧u=⟨C,opStrat C p,[C.o.bo],fun _=>.cells (oRow C 0 0 (.slice none 0 0) false false) t (0,0),[runFr C.o,bot]⟩)∨(g≠nG∧L g=some u):=fun g u h=>by
   by_cases e:g=nG
   ·subst e;rw [ConcN.upd_same] at h;exact .inl ⟨rfl,(Option.some.inj h).symm⟩
   ·rw [ConcN.upd_ne _ _ e] at h;exact .inr ⟨e,h⟩
  have hpv:∀ g u,L g=some u→C.o.bo ∉ u.pv:=fun g u hu hi=>by have:=co0.pv_lt hu hi;omega
  have co2:=co1.at d
  refine hx d (fun _=>.cells (oRow C 0 0 (.slice none 0 0) false false) t (0,0)) _ ⟨co2.env,co2.top,fun g u h=>?_,fun g u h=>?_,fun g u h=>?_,fun g u h=>?_,fun g u h=>?_,fun g hg0 h=>?_,fun s c h1 h2=>?_,fun g u h c hc=>?_,fun g u h=>?_,fun g u g' u' h h' c hc=>?_,fun g u g' u' h h' hne=>?_⟩ (fun k hM=>⟨⟨Nat.lt_of_lt_of_le hM.lt hG.size,hM.nf,hM.ns,hM.nd,fun g u h=>?_⟩,hG.old k hM.lt⟩)
  ·rcases cases g u h with ⟨rfl,rfl⟩|⟨_,h5⟩
   ·exact ⟨hg,h0,by omega⟩
   ·have:=co2.gid g u h5;exact ⟨this.1,this.2.1,by omega⟩
  ·rcases cases g u h with ⟨rfl,rfl⟩|⟨_,h5⟩
   ·exact hO
   ·exact co2.onk g u h5
  ·rcases cases g u h with ⟨rfl,rfl⟩|⟨_,h5⟩
   ·refine ⟨.slice none 0 0,false,hO.env co2.env,List.mem_cons_self ..,⟨List.mem_cons_self ..,fun i hi=>?_⟩,fun i hi=>?_,⟨t,rfl⟩,by show 0≠C.bf∧0≠C.bs∧0≠C.bd;rw [hO.f,hO.s,hO.d];exact co2.top,fun i hi h1=>?_⟩
    ·obtain rfl:=List.mem_singleton.1 hi
     rw [hO.k,hO.f,hO.s,hO.d]
     exact ⟨hone _ (by simp),hone _ (by simp),hone _ (by simp),hone _ (by simp),hone _ (by simp)⟩
    ·obtain rfl:=List.mem_singleton.1 hi;exact hrow
    ·exact absurd (List.mem_singleton.1 hi) h1
   ·exact co2.at_ g u h5
  ·rcases cases g u h with ⟨rfl,rfl⟩|⟨_,h5⟩
   ·exact ⟨r,Nat.le_refl _,wait_fresh r C hC hp _⟩
   ·exact co2.wait g u h5
  ·rcases cases g u h with ⟨rfl,rfl⟩|⟨e,h5⟩
   ·exact ConcN.upd_same _ _ _
   ·rw [ConcN.upd_ne _ _ e];exact co2.seat g u h5
  ·by_cases e:g=nG
   ·subst e;rw [ConcN.upd_same] at h;cases h
   ·rw [ConcN.upd_ne _ _ e] at h ⊢;exact co2.none g hg0 h
  ·rw [ConcN.upd_ne _ _ (by omega)] at h1;exact co2.main0 s c h1 h2
  ·rcases cases g u h with ⟨rfl,rfl⟩|⟨e,h5⟩
   ·have:=cge c hc
    exact ⟨⟨0,0,hN.chan c hc⟩,by omega,by omega,by omega,by omega,by omega,obo c hc⟩
   ·exact co2.chan g u h5 c hc
  ·rcases cases g u h with ⟨rfl,rfl⟩|⟨e,h5⟩
   ·exact hN.ne
   ·exact co2.chne g u h5
  ·rcases cases g u h with ⟨rfl,rfl⟩|⟨e,h5⟩
   ·intro hi
    obtain rfl:c=C.o.bo:=List.mem_singleton.1 hi
    rcases cases g' u' h' with ⟨rfl,rfl⟩|⟨e',h6⟩
    ·exact obo _ hc C.o (List.mem_cons_self ..) rfl
    ·have:=co0.ch_lt h6 hc;omega
   ·rcases cases g' u' h' with ⟨rfl,rfl⟩|⟨e',h6⟩
    ·intro hi
     have:=co0.pv_lt h5 hi;have:=cge c hc;omega
    ·exact co2.pvch g u g' u' h5 h6 c hc
  ·rcases cases g u h with ⟨rfl,rfl⟩|⟨e,h5⟩
   ·rcases cases g' u' h' with ⟨rfl,rfl⟩|⟨e',h6⟩
    ·exact absurd rfl hne
    ·refine ⟨fun i hi hi'=>?_,fun c hc hc'=>?_⟩
     ·obtain rfl:=List.mem_singleton.1 hi;exact hpv _ _ h6 hi'
     ·have:=co0.ch_lt h6 hc';have:=cge c hc;omega
   ·rcases cases g' u' h' with ⟨rfl,rfl⟩|⟨e',h6⟩
    ·refine ⟨fun i hi hi'=>?_,fun c hc hc'=>?_⟩
     ·obtain rfl:=List.mem_singleton.1 hi';exact hpv _ _ h5 hi
     ·have:=co0.ch_lt h5 hc;have:=cge c hc';omega
    ·exact co2.apart g u g' u' h5 h6 hne
  ·rcases cases g u h with ⟨rfl,rfl⟩|⟨e,h5⟩
   ·refine ⟨fun hi=>?_,fun hc=>?_⟩
    ·obtain rfl:=List.mem_singleton.1 hi;have:=hM.lt;omega
    ·have:=cge k hc;have:=hM.lt;omega
   ·exact hM.own g u h5
end
end Go.Proofs.YtcgabodkegcpgaaDoor
namespace Go.Proofs.YtcgabodkegcpgaaDoor
open Go.Conc Go.RowKit
open Br (X OpD KO SO SP sfO Lk Fit Must DL Liv Clear)
theorem must_new {main st:Bool}{sft:Nat→Nat}{Stop:Goroutine→World→Prop}{g:Goroutine}{w:World}{ob:Obj}{d:Nat}(hs:Br.Obj.sight ob)(hc:Clear w)(h:∀ W,Grown w W→W.heap[w.heap.size]?=some ob→W.heap.size=w.heap.size+1→∀ d,Must Tryd.prog main (DL st sft) Stop g (W.at d)):Must Tryd.prog main (DL st sft) Stop g ((w.at d).alloc ob) :=
 h (w.alloc ob) ⟨by simp,fun k hk=>Below.heap_alloc w ob k hk,(Br.lk_new hc.lk (o:=ob) hs).1.sight⟩ (heap_alloc_new w ob) (by simp) d
noncomputable def onSend (o:OpD)(cs:List Frame):Goroutine :=
 match Tryd.f42.body with
 | some (.seq _ (.seq (.region _ ops _) c))=>G ((base 42).at ⟨#[pO o,undef,.bool false,undef,undef,pO o,pO o,pO o,.chan (some o.tu),.agg #[],undef,undef,undef,undef,undef,undef,undef,undef,undef],[]⟩ [.inRegion ops [5],.code c]) cs
 | _=>default
noncomputable def onRecv (o:OpD)(cs:List Frame):Goroutine :=
 match Tryd.f42.body with
 | some (.seq _ (.seq _ (.seq (.region _ ops _) c)))=>G ((base 42).at ⟨#[pO o,undef,.bool false,undef,undef,pO o,pO o,pO o,.chan (some o.tu),.agg #[],undef,pO o,pO o,.pointer (some ⟨o.bo,1,none⟩),.chan (some o.to),undef,undef,undef,undef],[]⟩ [.inRegion ops [4,5,6,7,8,9,10],.code c]) cs
 | _=>default
theorem on_send (o:OpD)(cs:List Frame)(w:World):stepG Tryd.prog true (onSend o cs) w=.comm (onSend o cs) #[scase o.tu (.agg #[]) (.tuple #[])] true .send w #[]:=by
 unfold onSend
 simp only [Tryd.f42]
 rw [stepG_comm (cases:=#[scase o.tu (.agg #[]) (.tuple #[])]) (blocking:=true) (shape:=.send) (w':=w) rfl rfl (by decide) (by simp [go_sem,execOp,Act.eval,scase]),listed_none (by simp [go_sem,execOp,Act.eval])]
theorem on_at (o:OpD)(l:List OpD)(B:Nat)(cs:List Frame):AtIn Tryd.prog true (KO l) (SP l Br.no) B (toldSeat o.to true (onRecv o cs)) (onRecv o cs) (onRecv o cs):=by
 unfold onRecv
 simp only [Tryd.f42]
 exact atIn_of (s:=toldSeat o.to true _) rfl rfl (by decide) (fun w=>by simp [go_sem,execOp,rcase,Act.eval,toldSeat,Seat.one]) (fun w=>by simp [go_sem,execOp,Act.eval]) (by simp [toldSeat,Seat.one])
theorem on_sits (o:OpD)(l:List OpD)(ho:o∈l)(B:Nat)(hB:∀ o∈l,o.bo<B)(cs:List Frame):Sits Tryd.prog true (KO l) (SP l Br.no) B (toldSeat o.to true (onRecv o cs)) 9 (Go.Conc.served (onSend o cs) undef):=by
 have hw:=on_at o l B cs
 refine .inl ⟨8,default,rfl,?_⟩
 unfold onSend
 unfold onRecv at *
 simp only [Tryd.f42,served_fr] at *
 rw [Frame.finish_at]
 refine Goes.step rfl (fun w₁ h₁=>?_);rw [stepG_region_end];simp only [goes_go];refine ⟨ds_none _,?_⟩;clear h₁
 refine Goes.step rfl (fun w₁ h₁=>?_);rw [stepG_seq];simp only [goes_go];refine ⟨ds_none _,?_⟩;clear h₁
 refine Goes.step rfl (fun w₁ h₁=>?_);rw [stepG_region];simp only [goes_go,List.size_toArray,List.length_cons,List.length_nil,Nat.reduceAdd,Nat.zero_add,List.range,List.range.loop];refine ⟨ds_none _,?_⟩;clear h₁
 refine Goes.step rfl (fun w₁ h₁=>?_)
 refine goes_oper_k rfl rfl (by decide) (fun K hK=>?_)
 go_simp
 refine hK _ _ ⟨⟨rfl,fun e he=>by (have hm:=mem_listed he;simp [go_sem] at hm)⟩,?_⟩
 clear hK K h₁
 refine Goes.step rfl (fun w₁ h₁=>?_)
 refine goes_oper_k rfl rfl (by decide) (fun K hK=>?_)
 go_simp
 refine hK _ _ ⟨⟨rfl,fun e he=>by (have hm:=mem_listed he;simp [go_sem] at hm)⟩,?_⟩
 clear hK K h₁
 refine Goes.step rfl (fun w₁ h₁=>?_)
 refine goes_oper_k rfl rfl (by decide) (fun K hK=>?_)
 go_simp
 refine hK _ _ ⟨⟨rfl,fun e he=>by (have hm:=mem_listed he;simp [go_sem] at hm)⟩,?_⟩
 clear hK K h₁
 refine Goes.step rfl (fun w₁ h₁=>?_)
 refine goes_oper_k rfl rfl (by decide) (fun K hK=>?_)
 have hf:=ko_cells h₁ ho
 have hf0:=hf.1;have hf1:=hf.2.1;have hf2:=hf.2.2.1;have hfz:=hf.2.2.2
 go_simp
 refine hK _ _ ⟨⟨rfl,fun e he=>by (have hm:=mem_listed he;simp [go_sem, *] at hm;subst hm;exact evC_read _ (.inl ⟨o,ho,1,by omega,rfl⟩) (hB o ho))⟩,?_⟩
 clear hK K hf hf0 hf1 hf2 hfz h₁
 exact Goes.stop fun w₁ h₁=>⟨_,hw⟩
noncomputable def goesOnBody:Code:=(Tryd.f42.body).getD .skip
theorem goesOn_enter (o:OpD):Frame.enter Tryd.prog 42 #[pO o] .normal=(base 42).at ⟨#[pO o,undef,undef,undef,undef,undef,undef,undef,undef,undef,undef,undef,undef,undef,undef,undef,undef,undef,undef],[]⟩ [.code goesOnBody]:=by
 rw [enter_at (c:=goesOnBody) _ Tryd.func42 rfl]
 refine congrArg (fun t=>(base 42).at ⟨t,[]⟩ [.code goesOnBody]) ?_
 kernel_rfl
section
variable {kb:Kb} {l:List OpD} {K:Ker} {L:Nat→Option Lv} {r:Nat} {Inb:Nat→Option Seat} {nG:Nat} {w:World} {v:Lv} {Final:Machine→Trace→Prop}
theorem on_back (co:Co kb l K L r Inb nG w)(o:OpD)(more:Bool)(fr:Frame)(cs:List Frame)(hx:∀ w',Grown w w'→X Tryd.prog Final l Inb nG 0 (G (fr.finish (.bool more)) cs) w') :
  X Tryd.prog Final l Inb nG 0 (Go.Conc.served (onRecv o (fr::cs)) (backRes o.to true more)) w:=by
 have hb:backRes o.to true more=.tuple #[.agg #[],.bool more]:=by simp [backRes,commResult,rcase]
 rw [hb]
 unfold onRecv
 simp only [Tryd.f42,served_fr]
 rw [Frame.finish_at]
 refine Br.x_must (st:=true) ?_
 show Must Tryd.prog true (DL true (sfO l)) _ _ (w.at w.drawn)
 generalize w.drawn=dz
 have hc:=co.env.fit.clear
 go_simp
 refine Br.mo rfl rfl hc (fun d K' hK=>?_) _
 go_simp
 refine hK _ _ ⟨rfl,?_⟩
 clear hK K'
 refine Br.mo rfl rfl hc (fun d K' hK=>?_) _
 go_simp
 refine hK _ _ ⟨rfl,?_⟩
 clear hK K'
 refine Br.mo rfl rfl hc (fun d K' hK=>?_) _
 go_simp
 refine hK _ _ ⟨rfl,?_⟩
 clear hK K'
 refine Br.must_operW rfl rfl (by decide) (fun d K' hK=>?_) _
 go_simp
 refine hK _ _ ⟨Br.dl_alloc (fun e he=>?_),?_⟩
 ·have hm:=mem_listed he
  simp [go_sem] at hm
 clear hK K'
 refine must_new trivial hc (fun W hg hX hz d=>?_)
 have hc2:=hg.clear
 refine Br.must_operW rfl rfl (by decide) (fun d K' hK=>?_) _
 go_simp
 refine hK _ _ ⟨⟨.of_heap _ rfl,fun e he=>?_,rfl⟩,?_⟩
 ·have hm:=mem_listed he
  simp [go_sem] at hm
 clear hK K'
 refine Br.mo rfl rfl hc2 (fun d K' hK=>?_) _
 go_simp
 refine hK _ _ ⟨rfl,?_⟩
 clear hK K'
 refine Br.liv_region_end (fun d=>?_) _
 refine Br.liv_seq (fun d=>?_) _
 refine Br.liv_region (fun d=>?_) _
 simp only [Br.rz,Br.ix,Nat.reduceAdd]
 refine Br.mo rfl rfl hc2 (fun d K' hK=>?_) _
 go_simp
 refine hK _ _ ⟨rfl,?_⟩
 clear hK K'
 refine Br.mo rfl rfl hc2 (fun d K' hK=>?_) _
 go_simp
 refine hK _ _ ⟨rfl,?_⟩
 clear hK K'
 refine Br.liv_region_end (fun d=>?_) _
 refine Br.liv_ret (fun d=>?_) _
 exact Br.liv_leave (v:=.bool more) rfl rfl Tryd.func42 (resultsC_tmp (t:=2) rfl _) (w:=W) (fun d=>.stop (hx _ (hg.at d))) _
theorem main_goesOn (co:Co kb l K L (r+1) Inb nG w){j:Nat}(hv:L j=some v)(fr:Frame)(cs:List Frame)
  (hmore:∀ w' v' Inb',v'.C=v.C→v'.S=(fun _=>(v.turn K).2)→(∃ n a b c,(v.turn K).2 []=.call n a b c)→Co kb l (v.turn K).1 (ConcN.upd L j (some v')) r Inb' nG w'→Kp kb L w (ConcN.upd L j (some v')) w'→X Tryd.prog Final l Inb' nG 0 (G (fr.finish (.bool true)) cs) w')
  (hover:∀ w' Inb' val err,(v.turn K).2 []=.done val err→Co kb l (v.turn K).1 (ConcN.upd L j none) r Inb' nG w'→Kp kb L w (ConcN.upd L j none) w'→(∃ t free un go,w'.heap[v.C.o.bo]?=some (.cells (oRow v.C err val free un go) t (0,0)))→X Tryd.prog Final l Inb' nG 0 (G (fr.finish (.bool false)) cs) w') :
  X Tryd.prog Final l Inb nG 0 (G (Frame.enter Tryd.prog 42 #[pO v.C.o] .normal) (fr::cs)) w:=by
 have hbo:v.C.o∈l:=by obtain ⟨f,n,A⟩:=co.at_ j v hv;exact A.mem
 have h0:=(ko_cells co.env.ko hbo).1
 have turn:∀ d,X Tryd.prog Final l Inb nG 0 (onSend v.C.o (fr::cs)) (w.at d):=fun d=>by
  refine co_turn (co.at d) hv (rec:=onRecv v.C.o (fr::cs)) (nh:=9) (by unfold onSend;simp only [Tryd.f42];rfl) (fun d'=>on_send _ _ _) (fun B hB=>on_sits v.C.o l hbo B hB (fr::cs)) (fun w' v' Inb' h1 h2 h3 h4 h5=>?_) (fun w' Inb' val err h1 h2 h3 h4=>?_)
  ·exact on_back h4 v.C.o true fr cs (fun w2 hg=>hmore w2 v' Inb' h1 h2 h3 (h4.grown hg) (fun k hM=>by
    obtain ⟨m1,m2⟩:=h5 k ⟨hM.lt,hM.nf,hM.ns,hM.nd,hM.own⟩
    exact ⟨⟨Nat.lt_of_lt_of_le m1.lt hg.size,m1.nf,m1.ns,m1.nd,m1.own⟩,(hg.old k m1.lt).trans m2⟩))
  ·obtain ⟨t,f1,f2,f3,hr⟩:=h4
   exact on_back h2 v.C.o false fr cs (fun w2 hg=>hover w2 Inb' val err h1 (h2.grown hg) (fun k hM=>by
    obtain ⟨m1,m2⟩:=h3 k ⟨hM.lt,hM.nf,hM.ns,hM.nd,hM.own⟩
    exact ⟨⟨Nat.lt_of_lt_of_le m1.lt hg.size,m1.nf,m1.ns,m1.nd,m1.own⟩,(hg.old k m1.lt).trans m2⟩) ⟨t,f1,f2,f3,by rw [hg.old _ (Array.getElem?_eq_some_iff.1 hr).1];exact hr⟩)
 rw [goesOn_enter]
 unfold onSend at turn
 simp only [goesOnBody,Tryd.f42,Option.getD_some,pO] at *
 refine Br.x_must (st:=true) ?_
 show Must Tryd.prog true (DL true (sfO l)) _ _ (w.at w.drawn)
 generalize w.drawn=dz
 have hc:=co.env.fit.clear
 refine Br.liv_seq (fun d=>?_) _
 refine Br.liv_region (fun d=>?_) _
 simp only [Br.rz,Br.ix,Nat.reduceAdd]
 refine Br.mo rfl rfl hc (fun d K' hK=>?_) _
 go_simp
 refine hK _ _ ⟨rfl,?_⟩
 clear hK K'
 refine Br.liv_region_end (fun d=>?_) _
 refine Br.liv_seq (fun d=>?_) _
 refine Br.liv_region (fun d=>?_) _
 simp only [Br.rz,Br.ix,Nat.reduceAdd]
 refine Br.mo rfl rfl hc (fun d K' hK=>?_) _
 go_simp
 refine hK _ _ ⟨rfl,?_⟩
 clear hK K'
 refine Br.mo rfl rfl hc (fun d K' hK=>?_) _
 go_simp
 refine hK _ _ ⟨rfl,?_⟩
 clear hK K'
 refine Br.mo rfl rfl hc (fun d K' hK=>?_) _
 go_simp
 refine hK _ _ ⟨rfl,?_⟩
 clear hK K'
 refine Br.mo rfl rfl hc (fun d K' hK=>?_) _
 have e0:(w.at d).cell? ⟨v.C.o.bo,0,none⟩=some (.chan (some v.C.o.tu)):=h0
 go_simp
 refine hK _ _ ⟨rfl,?_⟩
 clear hK K'
 refine Br.mo rfl rfl hc (fun d K' hK=>?_) _
 go_simp
 refine hK _ _ ⟨rfl,?_⟩
 clear hK K'
 exact .stop (turn _)
end
end Go.Proofs.YtcgabodkegcpgaaDoor
