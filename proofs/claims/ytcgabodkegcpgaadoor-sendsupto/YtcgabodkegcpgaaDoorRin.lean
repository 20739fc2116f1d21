/- Operations as goroutines: what the ring of main and its operations leans on, and its rules (must, give, shut, hire, reseat), for whoever holds the token. -/
import Derived.Test.YtcgabodkegcpgaaDoorMus
import Derived.Conc.TokenWalk
import Derived.Conc.CompanyCalls
import Derived.Test.YtcgabodkegcpgaaDoorProg
import Derived.KernelRfl
set_option linter.unusedVariables false
set_option linter.unusedSimpArgs false
set_option maxHeartbeats 20000000
set_option maxRecDepth 100000
namespace Go.Proofs.YtcgabodkegcpgaaDoor.Br
open Go.Conc
open Go.ConcN (upd upd_same upd_ne)
structure OpD where
 gid:Nat
 bo:Nat
 tu:Nat
 to:Nat
 en:Nat
def KO (l:List OpD)(w:World):Prop:=∀ o∈l,∃ c t,w.heap[o.bo]?=some (.cells c t (0,0))∧c[0]?=some (.chan (some o.tu))∧c[1]?=some (.chan (some o.to))∧c[2]?=some (.chan (some o.en))
def SO (l:List OpD)(x:Loc):Prop:=∃ o∈l,∃ i,i<3∧x=.cell ⟨o.bo,i,none⟩
open Classical in
noncomputable def sfO (l:List OpD)(b:Nat):Nat:=if ∃ o∈l,o.bo=b then 3 else 0
theorem sfO_mem {l:List OpD}{o:OpD}(h:o∈l):sfO l o.bo=3:=by unfold sfO;rw [if_pos ⟨o,h,rfl⟩]
theorem sfO_ne {l:List OpD}{b:Nat}(h:sfO l b≠0):∃ o∈l,o.bo=b:=by
 unfold sfO at h
 split at h
 ·assumption
 ·exact absurd rfl h
theorem sfO_zero {l:List OpD}{b:Nat}(h:∀ o∈l,o.bo≠b):sfO l b=0:=by
 unfold sfO
 rw [if_neg]
 rintro ⟨o,ho,e⟩
 exact h o ho e
theorem withinO (l:List OpD):Within (sfO l) (SO l):=by
 rintro x ⟨o,ho,i,hi,rfl⟩
 exact ⟨_,rfl,by rw [sfO_mem ho];exact hi⟩
theorem KO.at {l:List OpD}(w:World)(d:Nat)(h:KO l w):KO l (w.at d):=h
theorem KO.dl {st:Bool}{l:List OpD}(w w':World)(es:Array Event)(hd:DL st (sfO l) w w' es)(h:KO l w):KO l w':=by
 intro o ho
 obtain ⟨c,t,h0,h1,h2,h3⟩:=h o ho
 obtain ⟨o',e1,e2⟩:=hd.1.same _ _ h0
 obtain ⟨c',rfl,_,hj⟩:=e2
 rw [sfO_mem ho] at hj
 exact ⟨c',t,e1,by rw [hj 0 (by omega)];exact h1,by rw [hj 1 (by omega)];exact h2,by rw [hj 2 (by omega)];exact h3⟩
theorem KO.chan {l:List OpD}{w:World}{c:Nat}(hc:∀ o∈l,o.bo≠c)(cap:Nat)(buf:Array Value)(cl:Bool)(a b:Nat)(tm:Bool)(h:KO l w):KO l (w.setChan c cap buf cl a b tm):=by
 intro o ho
 obtain ⟨x,t,h0,h1⟩:=h o ho
 exact ⟨x,t,by rw [heap_setChan_ne _ _ _ _ _ _ _ (fun e=>hc o ho e.symm)];exact h0,h1⟩
theorem KO.lt {l:List OpD}{w:World}(h:KO l w){o:OpD}(ho:o∈l):o.bo<w.heap.size:=by
 obtain ⟨c,t,h0,_⟩:=h o ho
 exact (Array.getElem?_eq_some_iff.1 h0).1
variable {st:Bool} {P:Program} {Final:Machine→Trace→Prop} {l:List OpD} {Inb:Nat→Option Seat} {n h:Nat}
def Ends (P:Program)(Final:Machine→Trace→Prop)(m:Machine)(T:Trace):Prop:=∃ N m' T',runNT P N m T=(.next m',T')∧Final m' T'∧Calm m.world m'.world
theorem Ends.back {m m':Machine}{T T':Trace}{N:Nat}(h:runNT P N m T=(.next m',T'))(hc:Calm m.world m'.world)(he:Ends P Final m' T'):Ends P Final m T:=by
 obtain ⟨N',m'',T'',h1,h2,h3⟩:=he
 exact ⟨N+N',m'',T'',runNT_then h h1,h2,hc.trans h3⟩
def SP (l:List OpD)(pre:Nat→Prop)(x:Loc):Prop:=SO l x∨∃ b i,pre b∧i<3∧x=.cell ⟨b,i,none⟩
def no:Nat→Prop:=fun _=>False
theorem withinP (l:List OpD):Within (sfO l) (SP l no):=by
 rintro x (h|⟨_,_,h,_⟩)
 ·exact withinO l x h
 ·exact h.elim
def Sit (P:Program)(l:List OpD)(pre:Nat→Prop)(Inb:Nat→Option Seat)(n h:Nat)(g:Goroutine)(w:World)(m:Machine)(T:Trace):Prop :=
 ∃ gs sl q Mem,m=crowd gs w sl∧gs.size=n∧gs[h]?=some g∧Mem h∧(∀ i s c,Inb i=some s→s.has c→∀ o∈l,o.bo≠c)∧Ring P (KO l) (SP l pre) w.heap.size Mem Inb h T gs w q
def XP (P:Program)(Final:Machine→Trace→Prop)(l:List OpD)(pre:Nat→Prop)(Inb:Nat→Option Seat)(n h:Nat)(g:Goroutine)(w:World):Prop:=∀ m T,Sit P l pre Inb n h g w m T→Ends P Final m T
abbrev X (P:Program)(Final:Machine→Trace→Prop)(l:List OpD)(Inb:Nat→Option Seat)(n h:Nat)(g:Goroutine)(w:World):Prop:=XP P Final l no Inb n h g w
theorem Sit.keep {pre:Nat→Prop}{g:Goroutine}{w:World}{m:Machine}{T:Trace}(hs:Sit P l pre Inb n h g w m T):KO l w:=by
 obtain ⟨gs,sl,q,Mem,_,_,_,_,_,C⟩:=hs
 exact C.keep
theorem xp_must {pre:Nat→Prop}(hp:st=true→pre=no){g:Goroutine}{w:World}(hm:Must P (h == 0) (DL st (sfO l)) (XP P Final l pre Inb n h) g w):XP P Final l pre Inb n h g w:=by
 rintro m T ⟨gs,sl,q,Mem,rfl,hn,hg,hM,hdis,C⟩
 obtain ⟨N,gs',a',w',sl',T',q',hr,hsz,ha',hx,hcm,C'⟩:=hold_must (sl:=sl) (fun w d=>KO.at w d) (fun w w' es hd=>KO.dl w w' es hd) (fun e=>by rw [hp e];exact withinP l) hm hg C
 exact (hx _ _ ⟨gs',sl',q',Mem,rfl,hsz.trans hn,ha',hM,hdis,C'⟩).back hr hcm
theorem x_must {g:Goroutine}{w:World}(hm:Must P (h == 0) (DL st (sfO l)) (X P Final l Inb n h) g w):X P Final l Inb n h g w:=xp_must (fun _=>rfl) hm
theorem x_give {a a₂:Goroutine}{j c kk nh:Nat}{s sh:Seat}{v z z':Value}{w:World}(hjh:j≠h)(hjn:j<n)(hj:Inb j=some s)(hk:s.cases[kk]?=some (rcase c z))(hrun:a.status=.running)
  (hsend:∀ d,stepG P (h == 0) a (w.at d)=.comm a₂ #[scase c v z'] true .send (w.at d) #[])(hh:Inb h=some sh)(hsit:∀ B,(∀ o∈l,o.bo<B)→Sits P (h == 0) (KO l) (SP l no) B sh nh (Go.Conc.served a₂ undef))
  (hnext:∀ g₂ d cap k,s.home g₂→w.heap[c]?=some (.chan cap #[] false k k false)→X P Final l Inb n j (Go.Conc.served g₂ (commResult s.cases s.shape kk v true)) ((w.at d).setChan c cap #[] false (k+1) (k+1) false)):X P Final l Inb n h a w:=by
 rintro m T ⟨gs,sl,q,Mem,rfl,hn,hg,hM,hdis,C⟩
 obtain ⟨N,m',T',hr,gs',g₂,d,k,cap,sl',q',rfl,hsz,hgj,hhome,hc,C'⟩:=give (sl:=sl) (fun w d=>KO.at w d) (fun w i s c cap buf cl a b tm hi hc hK=>KO.chan (hdis i s c hi hc) cap buf cl a b tm hK) hjh (hn▸hjn) hj hk hM hg hrun hsend (fun e he=>by simp at he) C
  (Inb':=Inb) (fun _ _=>rfl) (.inl rfl) (nh:=nh) (fun T' _=>by rw [hh];exact hsit _ fun o ho=>C.keep.lt ho)
 refine (hnext g₂ d cap k hhome hc _ _ ⟨gs',sl',q',fun g=>Mem g∧(Inb g≠none∨g=j),rfl,hsz.trans hn,hgj,⟨(C.mem j s hj).1,.inr rfl⟩,hdis,?_⟩).back hr ⟨rfl,rfl,rfl⟩
 have e:((w.at d).setChan c cap #[] false (k+1) (k+1) false).heap.size=w.heap.size:=by simp [World.setChan,World.at]
 rw [e];exact C'
theorem x_shut {a a':Goroutine}{j k c kk cap nh:Nat}{z:Value}{s sh:Seat}{w:World}(hjh:j≠h)(hjn:j<n)(hj:Inb j=some s)(hk:s.cases[kk]?=some (rcase c z))(hrun:a.status=.running)(hwake:mayWake P a=true)(ha':a'.status=.running)
  (hc:w.heap[c]?=some (.chan cap #[] false k k false))(hclose:∀ d,stepG P (h == 0) a (w.at d)=.go a' ((w.at d).setChan c cap #[] true k k false) (closeEvents c))(hh:Inb h=some sh)(hsit:∀ B,(∀ o∈l,o.bo<B)→Sits P (h == 0) (KO l) (SP l no) B sh nh a')
  (hnext:∀ g₂ d,s.home g₂→X P Final l (upd Inb j none) n j (Go.Conc.served g₂ (commResult s.cases s.shape kk z false)) ((w.at d).setChan c cap #[] true k k false)):X P Final l Inb n h a w:=by
 rintro m T ⟨gs,sl,q,Mem,rfl,hn,hg,hM,hdis,C⟩
 obtain ⟨N,gs',g₂,d,sl',T',q',hr,hsz,hgj,hhome,C'⟩:=give_close (sl:=sl) (fun w d=>KO.at w d) (fun w i s c cap buf cl a b tm hi hc hK=>KO.chan (hdis i s c hi hc) cap buf cl a b tm hK) hjh (hn▸hjn) hj hk hM hg hrun hwake ha' hc hclose C
  (Inb':=upd Inb j none) (fun x _ hx=>upd_ne Inb _ hx) (.inl (upd_ne Inb _ (Ne.symm hjh))) (upd_same Inb j _) (nh:=nh) (fun T' _=>by rw [upd_ne Inb _ (Ne.symm hjh),hh];exact hsit _ fun o ho=>C.keep.lt ho)
 refine (hnext g₂ d hhome _ _ ⟨gs',sl',q',fun g=>Mem g∧(upd Inb j none g≠none∨g=j),rfl,hsz.trans hn,hgj,⟨(C.mem j s hj).1,.inr rfl⟩,fun i s' c' hi=>?_,?_⟩).back hr ⟨rfl,rfl,rfl⟩
 rotate_left
 ·have e:((w.at d).setChan c cap #[] true k k false).heap.size=w.heap.size:=by simp [World.setChan,World.at]
  rw [e];exact C'
 ·by_cases e:i=j
  ·subst e;rw [upd_same] at hi;cases hi
  ·rw [upd_ne Inb _ e] at hi;exact hdis i s' c' hi
theorem x_last {a a':Goroutine}{j k c kk cap nh:Nat}{z:Value}{s:Seat}{w:World}(hh0:0<h)(hjh:j≠h)(hjn:j<n)(hj:Inb j=some s)(hk:s.cases[kk]?=some (rcase c z))(hrun:a.status=.running)(hwake:mayWake P a=true)(ha':a'.status=.running)
  (hc:w.heap[c]?=some (.chan cap #[] false k k false))(hclose:∀ d,stepG P (h == 0) a (w.at d)=.go a' ((w.at d).setChan c cap #[] true k k false) (closeEvents c))(hquit:QuitsD P nh 0 a')
  (hnext:∀ g₂ d,s.home g₂→X P Final l (upd (upd Inb j none) h none) n j (Go.Conc.served g₂ (commResult s.cases s.shape kk z false)) ((w.at d).setChan c cap #[] true k k false)):X P Final l Inb n h a w:=by
 rintro m T ⟨gs,sl,q,Mem,rfl,hn,hg,hM,hdis,C⟩
 obtain ⟨N,gs',g₂,d,sl',T',q',hr,hsz,hgj,hhome,C'⟩:=give_close (sl:=sl) (fun w d=>KO.at w d) (fun w i s c cap buf cl a b tm hi hc hK=>KO.chan (hdis i s c hi hc) cap buf cl a b tm hK) hjh (hn▸hjn) hj hk hM hg hrun hwake ha' hc hclose C
  (Inb':=upd (upd Inb j none) h none) (fun x hx1 hx=>by rw [upd_ne _ _ hx1,upd_ne Inb _ hx]) (.inr (upd_same _ h _)) (by rw [upd_ne _ _ hjh,upd_same]) (nh:=nh) (fun T' hD=>by rw [upd_same];exact ⟨hh0,by rw [hD];exact hquit⟩)
 refine (hnext g₂ d hhome _ _ ⟨gs',sl',q',fun g=>Mem g∧(upd (upd Inb j none) h none g≠none∨g=j),rfl,hsz.trans hn,hgj,⟨(C.mem j s hj).1,.inr rfl⟩,fun i s' c' hi=>?_,?_⟩).back hr ⟨rfl,rfl,rfl⟩
 rotate_left
 ·have e:((w.at d).setChan c cap #[] true k k false).heap.size=w.heap.size:=by simp [World.setChan,World.at]
  rw [e];exact C'
 ·by_cases e1:i=h
  ·subst e1;rw [upd_same] at hi;cases hi
  ·rw [upd_ne _ _ e1] at hi
   by_cases e:i=j
   ·subst e;rw [upd_same] at hi;cases hi
   ·rw [upd_ne Inb _ e] at hi;exact hdis i s' c' hi
theorem x_reseat {g:Goroutine}{w:World}(s:Seat)(hwf:s.Wf)(hfresh:∀ i s' c,i≠h→Inb i=some s'→s'.has c→¬ s.has c)(hc:∀ c,s.has c→∃ cap k,w.heap[c]?=some (.chan cap #[] false k k false))(ho:∀ c,s.has c→∀ o∈l,o.bo≠c)
  (hx:X P Final l (upd Inb h (some s)) n h g w):X P Final l Inb n h g w:=by
 rintro m T ⟨gs,sl,q,Mem,rfl,hn,hg,hM,hdis,C⟩
 have hcB:∀ c,s.has c→c<w.heap.size:=fun c hcs=>by
  obtain ⟨cap,k,hk⟩:=hc c hcs
  exact (Array.getElem?_eq_some_iff.1 hk).1
 refine hx _ _ ⟨gs,sl,q,Mem,rfl,hn,hg,hM,fun i s' c hi hcs=>?_,C.reseat hM s hwf hfresh hc hcB⟩
 by_cases e:i=h
 ·subst e;rw [upd_same] at hi;obtain rfl:=Option.some.inj hi;exact ho c hcs
 ·rw [upd_ne Inb _ e] at hi;exact hdis i s' c hi hcs
theorem x_pre {g:Goroutine}{w:World}(b:Nat)(hb:w.heap.size≤b)(hx:XP P Final l (·=b) Inb n h g w):X P Final l Inb n h g w:=by
 rintro m T ⟨gs,sl,q,Mem,rfl,hn,hg,hM,hdis,C⟩
 refine hx _ _ ⟨gs,sl,q,Mem,rfl,hn,hg,hM,hdis,ring_grow C (fun _ h=>h) C.keep ?_ ?_ (Nat.le_refl _)⟩
 ·rintro x (h|⟨_,_,h,_⟩)
  ·exact .inl h
  ·exact h.elim
 ·rintro x (h|⟨b',i,rfl,hi,rfl⟩)
  ·exact .inl (.inl h)
  ·exact .inr ⟨_,rfl,hb⟩
theorem x_come {g:Goroutine}{w:World}(o:OpD)(hK:KO [o] w)(hdis:∀ i s c,Inb i=some s→s.has c→o.bo≠c)(hx:X P Final (o::l) Inb n h g w):XP P Final l (·=o.bo) Inb n h g w:=by
 rintro m T ⟨gs,sl,q,Mem,rfl,hn,hg,hM,hd,C⟩
 refine hx _ _ ⟨gs,sl,q,Mem,rfl,hn,hg,hM,fun i s c hi hc o' ho'=>?_,ring_grow C (fun w hw o' ho'=>hw o' (List.mem_cons_of_mem _ ho')) ?_ ?_ ?_ (Nat.le_refl _)⟩
 ·rcases List.mem_cons.1 ho' with rfl|ho'
  ·exact hdis i s c hi hc
  ·exact hd i s c hi hc o' ho'
 ·intro o' ho'
  rcases List.mem_cons.1 ho' with rfl|ho'
  ·exact hK _ (List.mem_cons_self ..)
  ·exact C.keep o' ho'
 ·rintro x (⟨o',ho',i,hi,rfl⟩|⟨b,i,rfl,hi,rfl⟩)
  ·exact .inl ⟨o',List.mem_cons_of_mem _ ho',i,hi,rfl⟩
  ·exact .inl ⟨o,List.mem_cons_self ..,i,hi,rfl⟩
 ·rintro x (⟨o',ho',i,hi,rfl⟩|⟨_,_,h,_⟩)
  ·rcases List.mem_cons.1 ho' with rfl|ho'
   ·exact .inl (.inr ⟨_,i,rfl,hi,rfl⟩)
   ·exact .inl (.inl ⟨o',ho',i,hi,rfl⟩)
  ·exact h.elim
theorem x_hire {a a' child:Goroutine}{w:World}{nc:Nat}(hrun:a.status=.running)(hgo:∀ d,stepG P (h == 0) a (w.at d)=.spawn a' child (w.at d) #[])(sn:Seat)(hwfn:sn.Wf)(hfresh:∀ i s c,Inb i=some s→s.has c→¬ sn.has c)
  (hcn:∀ c,sn.has c→∃ cap k,w.heap[c]?=some (.chan cap #[] false k k false))(ho:∀ c,sn.has c→∀ o∈l,o.bo≠c)(hchild:∀ B,(∀ o∈l,o.bo<B)→Sits P false (KO l) (SP l no) B sn nc child)
  (hx:∀ d,X P Final l (upd Inb n (some sn)) (n+1) h a' (w.at d)):X P Final l Inb n h a w:=by
 rintro m T ⟨gs,sl,q,Mem,rfl,hn,hg,hM,hdis,C⟩
 subst hn
 obtain ⟨N,gs',d,sl',T',q',hr,hsz,ha',C'⟩:=hire (sl:=sl) (fun w d=>KO.at w d) hM hg hrun hgo (fun e he=>by simp at he) C sn hwfn hfresh hcn (fun c hc=>by
  obtain ⟨cap,k,hk⟩:=hcn c hc
  exact (Array.getElem?_eq_some_iff.1 hk).1) (hchild _ fun o ho=>C.keep.lt ho)
 refine (hx d _ _ ⟨gs',sl',q',_,rfl,hsz,ha',.inl hM,fun i s c hi hc=>?_,C'⟩).back hr ⟨rfl,rfl,rfl⟩
 by_cases e:i=gs.size
 ·subst e;rw [upd_same] at hi;obtain rfl:=Option.some.inj hi;exact ho c hc
 ·rw [upd_ne Inb _ e] at hi;exact hdis i s c hi hc
end Go.Proofs.YtcgabodkegcpgaaDoor.Br
namespace Go.Proofs.YtcgabodkegcpgaaDoor.Br
open Go.Conc
variable {P:Program} {S:FuncId→Bool} {meths:List String} {st:Bool} {sft:Nat→Nat} {main:Bool} {Stop:Goroutine→World→Prop} {b:Frame} {a:Act} {k:List Item} {cs:List Frame} {w:World} {ops:Array Oper} {i:Nat} {rest:List Nat} {o:Oper}
def Liv (P:Program)(main:Bool)(st:Bool)(sft:Nat→Nat)(Stop:Goroutine→World→Prop)(g:Goroutine)(w:World):Prop:=∀ d,Must P main (DL st sft) Stop g (w.at d)
theorem liv_must {g:Goroutine}(h:Liv P main st sft Stop g w):Must P main (DL st sft) Stop g w:=h w.drawn
theorem liv_of {g:Goroutine}{Stop':Goroutine→World→Prop}(h:∀ d,Must P main (DL st sft) Stop' g (w.at d))(hn:∀ g' w',Stop' g' w'→Liv P main st sft Stop g' w'):Liv P main st sft Stop g w :=
 fun d=>(h d).then fun g' w' hs=>liv_must (hn g' w' hs)
theorem dl_none (w:World):DL st sft w w #[]:=⟨.refl _ _,fun e he=>by simp at he,rfl⟩
theorem liv_go {g g':Goroutine}(hr:g.status=.running)(h:∀ u,stepG P main g u=.go g' u #[])(hn:Liv P main st sft Stop g' w):Liv P main st sft Stop g w:=fun d =>
 .step (fun _=>g') (fun d'=>w.at d') (fun _=>#[]) hr (fun d'=>h _) (fun d'=>dl_none _) (fun d'=>hn d')
theorem liv_skip (h:Liv P main st sft Stop (G (b.at a k) cs) w):Liv P main st sft Stop (G (b.at a (.code .skip::k)) cs) w:=liv_go rfl (fun _=>stepG_skip) h
theorem liv_inBlock {id:Nat}(h:Liv P main st sft Stop (G (b.at a k) cs) w):Liv P main st sft Stop (G (b.at a (.inBlock id::k)) cs) w:=liv_go rfl (fun _=>stepG_inBlock) h
theorem liv_seq {x y:Code}(h:Liv P main st sft Stop (G (b.at a (.code x::.code y::k)) cs) w):Liv P main st sft Stop (G (b.at a (.code (.seq x y)::k)) cs) w:=liv_go rfl (fun _=>stepG_seq) h
theorem liv_cond {c:Operand}{x y:Code}{t:Bool}(hc:a.eval c=.bool t)(h:Liv P main st sft Stop (G (b.at a (.code (if t then x else y)::k)) cs) w):Liv P main st sft Stop (G (b.at a (.code (.cond c x y)::k)) cs) w:=liv_go rfl (fun _=>stepG_cond hc) h
theorem liv_block {id:Nat}{c:Code}(h:Liv P main st sft Stop (G (b.at a (.code c::.inBlock id::k)) cs) w):Liv P main st sft Stop (G (b.at a (.code (.block id c)::k)) cs) w:=liv_go rfl (fun _=>stepG_block) h
theorem liv_loop {c:Code}(h:Liv P main st sft Stop (G (b.at a (.code c::.inLoop c::k)) cs) w):Liv P main st sft Stop (G (b.at a (.code (.loop c)::k)) cs) w:=liv_go rfl (fun _=>stepG_loop) h
theorem liv_inLoop {c:Code}(h:Liv P main st sft Stop (G (b.at a (.code c::.inLoop c::k)) cs) w):Liv P main st sft Stop (G (b.at a (.inLoop c::k)) cs) w:=liv_go rfl (fun _=>stepG_inLoop) h
theorem liv_exit {id:Nat}{k':List Item}(hk:exitTo id k=some k')(h:Liv P main st sft Stop (G (b.at a k') cs) w):Liv P main st sft Stop (G (b.at a (.code (.exit id)::k)) cs) w:=liv_go rfl (fun _=>stepG_exit hk) h
theorem liv_ret (h:Liv P main st sft Stop (G { b.at a (.code .ret::k) with mode:=.returning } cs) w):Liv P main st sft Stop (G (b.at a (.code .ret::k)) cs) w:=liv_go rfl (fun _=>stepG_ret') h
theorem liv_region {id:Nat}(h:Liv P main st sft Stop (G (b.at a (.inRegion ops (List.range ops.size)::k)) cs) w):Liv P main st sft Stop (G (b.at a (.code (.region id ops false)::k)) cs) w:=liv_go rfl (fun _=>stepG_region) h
theorem liv_region_end (h:Liv P main st sft Stop (G (b.at a k) cs) w):Liv P main st sft Stop (G (b.at a (.inRegion ops [] :: k)) cs) w:=liv_go rfl (fun _=>stepG_region_end) h
theorem liv_unwanted (ho:ops[i]?=some o)(hw:Region.wanted o (yielded ops a.tmps)=false)(h:Liv P main st sft Stop (G (b.at (a.put o.dst undef) (.inRegion ops rest::k)) cs) w):Liv P main st sft Stop (G (b.at a (.inRegion ops (i::rest)::k)) cs) w:=liv_go rfl (fun _=>stepG_unwanted ho hw) h
theorem liv_call {f:FuncId}{fn:Func}{c:Code}{args:Array Operand}{ats:Array TypeId}(ho:ops[i]?=some o)(hw:Region.wanted o (yielded ops a.tmps)=true)(hk:b.kind≠.early)(hop:o.op=.call { callee:=.value (.func f),args,argTypes:=ats })
  (hf:P.funcs[f]?=some fn)(hname:(fn.name == "runtime.NumGoroutine")=false)(hb:fn.body=some c)
  (h:Liv P main st sft Stop (G (Frame.enter P f (args.map a.eval) .normal) (b.at a (.inRegion ops (i::rest)::k)::cs)) w):Liv P main st sft Stop (G (b.at a (.inRegion ops (i::rest)::k)) cs) w:=by
 refine liv_go rfl (fun u=>?_) h
 have hb':fn.body.isNone=false:=by rw [hb];rfl
 rw [stepG_enter ho hw hk (run_call_body hop hf hname hb')]
 have:listed P b.fn a o u=#[]:=by unfold listed;rw [events_call_body hop hf hname hb'];exact seen_none P _
 rw [this]
theorem liv_leave {fn:Func}{todo:List Item}{c:Frame}{v:Value}(hn:b.kind=.normal)(hd:a.defers=[])(hf:P.funcs[b.fn]?=some fn)(hr:ResultsC P fn a.tmps v)
  (h:Liv P main st sft Stop (G (c.finish v) cs) w):Liv P main st sft Stop (G { b.at a todo with mode:=.returning } (c::cs)) w :=
 liv_go rfl (fun u=>stepG_leave hn hd hf (hr u).1 (hr u).2) h
theorem t_lists {α:Type}(p:Program)(e:Sem α)(W:Prop)(Φ:α→Prop):∀ (w:World) (es:Array Event),Tame p False Φ e →
  w.heap.size≤(e.runT p w es).1.world.heap.size∧Lists sft W (e.runT p w es).1.world.heap.size es (e.runT p w es).2:=by
 have aft:∀ {n m:Nat} {es es1 es2:Array Event},Lists sft W n es es1→n≤m∧Lists sft W m es1 es2→n≤m∧Lists sft W m es es2:=fun h h'=>⟨h'.1,h.trans h'.2 h'.1⟩
 induction e with
 | pure a=>intro w es h;exact ⟨Nat.le_refl _,.refl _ _ _ _⟩
 | load m a k ih =>
  intro w es h
  simp only [Sem.runT]
  split
  ·rename_i hc
   exact aft (.pushC (cell_lt hc) (by simp)) (ih _ w _ (h _))
  ·split
   ·rename_i v t hs
    refine aft (fun x hx=>?_) (ih _ w _ (h _))
    rcases Array.mem_append.1 hx with hx|hx
    ·exact .inl hx
    ·obtain ⟨y,hy,rfl⟩:=Array.mem_map.1 hx
     exact .inr ⟨farLoad_ok hs y (List.mem_toArray.1 hy),by simp⟩
   ·exact ⟨Nat.le_refl _,.refl _ _ _ _⟩
 | store m a x k ih=>intro w es h;exact h.1.elim
 | new o k ih =>
  intro w es h
  simp only [Sem.runT]
  have:=ih _ { w with heap:=w.heap.push o } es (h.2 w.heap.size)
  exact ⟨Nat.le_trans (by simp) this.1,this.2⟩
 | shape r k ih=>intro w es h;simp only [Sem.runT];exact ih _ _ _ (h _)
 | freeze a n k ih=>intro w es h;exact h.elim
 | frozen a k ih=>intro w es h;simp only [Sem.runT];exact ih _ _ _ (t_of_doomed (h _))
 | getObj r k ih =>
  intro w es h
  simp only [Sem.runT]
  split
  ·exact ⟨Nat.le_refl _,.refl _ _ _ _⟩
  ·rename_i hr
   exact aft (.pushO (Array.getElem?_eq_some_iff.1 hr).1) (ih _ w _ (h.1 _))
  ·exact ⟨Nat.le_refl _,.refl _ _ _ _⟩
 | setObj r o k ih=>intro w es h;exact h.elim
 | choose q k ih =>
  intro w es h
  simp only [Sem.runT]
  split
  ·exact ih _ _ _ (h _)
  ·exact ih _ { w with drawn:=w.drawn+1 } _ (h _)
 | sys c k ih=>intro w es h;exact h.elim
 | program k ih=>intro w es h;simp only [Sem.runT];exact ih _ _ _ h
 | mark m k ih=>intro w es h;simp only [Sem.runT];exact aft (.pushM h.1) (ih w _ h.2.2)
 | halt x=>intro w es h;exact ⟨Nat.le_refl _,.refl _ _ _ _⟩
theorem off_listed {u u':World}{x:Next}(hop:okOp P (fun _=>false) [] false o.op=true)(_:Clear u)(hr:(execOp a.eval o).run P u=.ok x u'):∀ e∈listed P b.fn a o u,Off sft (st=true) u'.heap.size e:=by
 intro e he
 have ht:Tame P (false=true) (Comesto (fun f=>(fun _=>false:FuncId→Bool) f=true)) (execOp a.eval o):=t_execOp (P:=P) (S:=fun _=>false) (meths:=[]) (st:=false) id (fun f hf=>by cases hf) (fun m hm=>by cases hm) (fun v=>rfl) (fun f=>rfl) o hop
 rw [show (false=true)=False by simp] at ht
 have key:=(t_lists (sft:=sft) P (execOp a.eval o) (st=true) _ u #[] ht).2
 have he':e∈((execOp a.eval o).runT P u #[]).2:=mem_seen he
 have hr':((execOp a.eval o).runT P u #[]).1=.ok x u':=by rw [Sem.runT_fst];exact hr
 rw [hr'] at key
 rcases key e he' with h|h
 ·simp at h
 ·exact h
theorem liv_op {x:Value}(ho:ops[i]?=some o)(hw:Region.wanted o (yielded ops a.tmps)=true)(hk:b.kind≠.early)(hop:okOp P (fun _=>false) [] false o.op=true)(hc:Clear w)(hr:∀ d,(execOp a.eval o).run P (w.at d)=.ok (.value x) (w.at d))
  (h:Liv P main st sft Stop (G (b.at (a.put o.dst x) (.inRegion ops rest::k)) cs) w):Liv P main st sft Stop (G (b.at a (.inRegion ops (i::rest)::k)) cs) w:=fun d =>
 .step (fun _=>G (b.at (a.put o.dst x) (.inRegion ops rest::k)) cs) (fun d'=>w.at d') (fun d'=>listed P b.fn a o (w.at d')) rfl (fun d'=>stepG_value ho hw hk (hr d'))
  (fun d'=>⟨.refl _ _,off_listed hop (u:=w.at d') hc (hr d'),rfl⟩) (fun d'=>h d')
theorem must_operW (ho:ops[i]?=some o)(hw:Region.wanted o (yielded ops a.tmps)=true)(hk:b.kind≠.early)
  (h:∀ (d:Nat) (K':Act→World→Prop),(∀ a' w',DL st sft (w.at d) w' (listed P b.fn a o (w.at d))∧Must P main (DL st sft) Stop (G (b.at a' (.inRegion ops rest::k)) cs) w'→K' a' w')→uponK o a K' ((execOp a.eval o).run P (w.at d)))(d0:Nat) :
  Must P main (DL st sft) Stop (G (b.at a (.inRegion ops (i::rest)::k)) cs) (w.at d0):=by
 have key:∀ d,∃ g' w' es,stepG P main (G (b.at a (.inRegion ops (i::rest)::k)) cs) (w.at d)=.go g' w' es∧DL st sft (w.at d) w' es∧Must P main (DL st sft) Stop g' w':=by
  intro d
  have:=h d (fun a' w'=>DL st sft (w.at d) w' (listed P b.fn a o (w.at d))∧Must P main (DL st sft) Stop (G (b.at a' (.inRegion ops rest::k)) cs) w') (fun _ _ x=>x)
  revert this
  generalize hr:(execOp a.eval o).run P (w.at d)=r
  cases r with
  | ok x w' =>
   cases x with
   | value v=>exact fun h=>⟨_,_,_,stepG_value ho hw hk hr,h.1,h.2⟩
   | skip=>exact fun h=>⟨_,_,_,stepG_none ho hw hk hr,h.1,h.2⟩
   | _=>exact fun h=>h.elim
  | halt _ _=>exact fun h=>h.elim
 exact .step (fun d=>(key d).choose) (fun d=>(key d).choose_spec.choose) (fun d=>(key d).choose_spec.choose_spec.choose) rfl (fun d=>(key d).choose_spec.choose_spec.choose_spec.1) (fun d=>(key d).choose_spec.choose_spec.choose_spec.2.1) (fun d=>(key d).choose_spec.choose_spec.choose_spec.2.2)
theorem must_oper (ho:ops[i]?=some o)(hw:Region.wanted o (yielded ops a.tmps)=true)(hk:b.kind≠.early)(hop:okOp P (fun _=>false) [] false o.op=true)(hc:Clear w)
  (h:∀ (d:Nat) (K':Act→World→Prop),(∀ a' w',w'=w.at d∧Must P main (DL st sft) Stop (G (b.at a' (.inRegion ops rest::k)) cs) (w.at d)→K' a' w')→uponK o a K' ((execOp a.eval o).run P (w.at d)))(d0:Nat) :
  Must P main (DL st sft) Stop (G (b.at a (.inRegion ops (i::rest)::k)) cs) (w.at d0):=by
 refine must_operW ho hw hk (fun d K' hK=>?_) d0
 have:=h d (fun a' w'=>w'=w.at d∧Must P main (DL st sft) Stop (G (b.at a' (.inRegion ops rest::k)) cs) (w.at d)) (fun _ _ x=>x)
 revert this
 generalize hr:(execOp a.eval o).run P (w.at d)=r
 cases r with
 | ok x w' =>
  cases x with
  | value v =>
   rintro ⟨rfl,hm⟩
   exact hK _ _ ⟨⟨.refl _ _,off_listed hop (u:=w.at d) hc hr,rfl⟩,hm⟩
  | skip =>
   rintro ⟨rfl,hm⟩
   exact hK _ _ ⟨⟨.refl _ _,off_listed hop (u:=w.at d) hc hr,rfl⟩,hm⟩
  | _=>exact fun h=>h.elim
 | halt _ _=>exact fun h=>h.elim
theorem dl_store {u:World}{ad:Addr}{x:Value}{es:Array Event}(hs:sft ad.block≤ad.off)(hlt:ad.block<u.heap.size)(he:∀ e∈es,e=⟨.cell ad,true,false⟩):DL true sft u (u.setCell ad x) es:=by
 refine ⟨⟨fun j o' ho'=>?_,by simp [World.setCell],fun j o' hj ho'=>?_⟩,fun e h=>?_,rfl⟩
 ·rw [heap_setCell]
  split
  ·rename_i e
   rw [ho',Option.map_some]
   refine ⟨_,rfl,?_⟩
   cases o' with
   | cells c t f =>
    refine ⟨_,rfl,?_,fun j' hj=>?_⟩
    ·split<;>simp
    ·split
     ·rfl
     ·rw [Array.getElem?_setIfInBounds_ne]
      subst e;omega
   | _=>exact rfl
  ·exact ⟨o',ho',.refl _ _⟩
 ·have:=(Array.getElem?_eq_some_iff.1 ho').1
  simp [World.setCell] at this
  omega
 ·rw [he e h]
  exact ⟨by simpa [World.setCell] using hlt,fun _=>⟨hs,rfl⟩⟩
theorem dl_alloc {u:World}{x:Go.Obj}{es:Array Event}(he:∀ e∈es,False)(hx:Obj.sight x:=by trivial):DL st sft u (u.alloc x) es:=by
 refine ⟨⟨fun j o' ho'=>⟨o',?_,.refl _ _⟩,by simp,fun j o' hj ho'=>?_⟩,fun e h=>(he e h).elim,rfl⟩
 ·have hlt:=(Array.getElem?_eq_some_iff.1 ho').1
  show (u.heap.push x)[j]?=_
  rw [Array.getElem?_push,if_neg (by omega)]
  exact ho'
 ·have ho':(u.heap.push x)[j]?=some o':=ho'
  rw [Array.getElem?_push] at ho'
  split at ho'
  ·obtain rfl:=Option.some.inj ho';exact hx
  ·have:=(Array.getElem?_eq_some_iff.1 ho').1;omega
theorem mc {g g':Goroutine}(hr:g.status=.running)(h:∀ u,stepG P main g u=.go g' u #[])(hn:∀ d,Must P main (DL st sft) Stop g' (w.at d))(d0:Nat):Must P main (DL st sft) Stop g (w.at d0):=liv_go hr h hn d0
theorem mo (ho:ops[i]?=some o) (hw:Region.wanted o (yielded ops a.tmps)=true) (hc:Clear w)
  (h:∀ (d:Nat) (K':Act→World→Prop),(∀ a' w',w'=w.at d∧Must P main (DL st sft) Stop (G (b.at a' (.inRegion ops rest::k)) cs) (w.at d)→K' a' w')→uponK o a K' ((execOp a.eval o).run P (w.at d))) (d0:Nat) (hk:b.kind≠.early:=by decide) (hop:okOp P (fun _=>false) [] false o.op=true:=by kernel_rfl):
  Must P main (DL st sft) Stop (G (b.at a (.inRegion ops (i::rest)::k)) cs) (w.at d0):=must_oper ho hw hk hop hc h d0
def ix {α:Type}:List α→Nat→List Nat
 | [],_=>[]
 | _::l,n=>n::ix l (n+1)
theorem ix_loop {α:Type}:∀ (l:List α) (n:Nat),ix l n=List.range' n l.length
 | [],_=>rfl
 | _::l,n=>by simp only [ix,List.length_cons,List.range'_succ];rw [ix_loop l (n+1)]
theorem rz {α:Type} (l:List α):List.range l.toArray.size=ix l 0:=by rw [ix_loop,List.size_toArray,List.range_eq_range']
end Go.Proofs.YtcgabodkegcpgaaDoor.Br
namespace Go.Proofs.YtcgabodkegcpgaaDoor.Br
theorem reckonStruct_methods {info:TypeId→Option TypeInfo}{fs:Array Field}{i:TypeInfo}(h:Made.reckonStruct info fs=some i):i.methods=#[]:=by
 unfold Made.reckonStruct at h
 simp only [bind,Option.bind_eq_some_iff] at h
 obtain ⟨r,_,h⟩:=h
 revert h
 repeat' split
 all_goals
  intro h
  first
   | (obtain rfl:=Option.some.inj h;rfl)
   | skip
theorem reckon_methods {info:TypeId→Option TypeInfo}{d:TypeDesc}{i:TypeInfo}(h:Made.reckon info d=some i):i.methods=#[]:=by
 unfold Made.reckon at h
 split at h
 ·simp only [bind,Option.bind_eq_some_iff] at h
  obtain ⟨j,_,h⟩:=h
  split at h
  ·cases h
  ·split at h
   ·cases h
   ·simp only [bind,Option.bind_eq_some_iff] at h
    obtain ⟨s,_,h⟩:=h
    obtain rfl:=Option.some.inj h;rfl
  ·simp only [bind,Option.bind_eq_some_iff] at h
   obtain ⟨s,_,h⟩:=h
   obtain rfl:=Option.some.inj h;rfl
 ·simp only [bind,Option.bind_eq_some_iff] at h
  obtain ⟨j,_,s,_,h⟩:=h
  obtain rfl:=Option.some.inj h;rfl
 ·simp only [bind,Option.bind_eq_some_iff] at h
  obtain ⟨j,_,s,_,j',_,s',_,h⟩:=h
  obtain rfl:=Option.some.inj h;rfl
 ·simp only [bind,Option.bind_eq_some_iff] at h
  obtain ⟨j,_,s,_,h⟩:=h
  obtain rfl:=Option.some.inj h;rfl
 ·simp only [bind,Option.bind_eq_some_iff] at h
  obtain ⟨s,_,h⟩:=h
  obtain rfl:=Option.some.inj h;rfl
 ·simp only [bind,Option.bind_eq_some_iff] at h
  obtain ⟨j,_,s,_,h⟩:=h
  obtain rfl:=Option.some.inj h;rfl
 ·exact reckonStruct_methods h
 ·cases h
theorem made_methods {T:Tables}{t:TypeId}{i:TypeInfo}(ht:T.types.size≤t)(h:T.info? t=some i):i.methods=#[]:=by
 unfold Tables.info? at h
 rw [if_neg (Nat.not_lt.2 ht)] at h
 unfold Made.depth at h
 rw [show (100:Nat)=99+1 from rfl,Made.infoAt,if_neg (Nat.not_lt.2 ht)] at h
 simp only [Option.bind_eq_some_iff] at h
 obtain ⟨d,_,h⟩:=h
 exact reckon_methods h
def goods:List FuncId:=[10,11,13,24,25,26,27,28,29,30,31,32,34,35,36,45,46,47,48,49,50,51,52,53,54,55,56,57,58,59,60,61,62,64,65,66,67,68,69,70,71,72,73,74,77,16,21,40,78,88,90,9,12,33,14,37,38,39,19,43,22,85,94,96,97,114,115,116,117,118]
def Sg (f:FuncId):Bool:=goods.contains f
def ms:List String:=["Len", "Less", "Swap", "Push", "Pop"]
def chkBody (P:Program)(S:FuncId→Bool)(meths:List String)(f:FuncId):Bool :=
 match P.funcs[f]? with
 | some fn=>!(fn.name == "runtime.NumGoroutine") && (match fn.body with|some c=>okCode P S meths true c|none=>false)
 | none=>false
def chkCall (P:Program)(S:FuncId→Bool)(f:FuncId):Bool :=
 match P.funcs[f]? with
 | some fn=>!(fn.name == "runtime.NumGoroutine") && ((!fn.body.isNone && S f) || (fn.body.isNone && (Extern.findNext fn).isNone && (Extern.find fn).isNone && !(fn.name.endsWith ".init" && !fn.name.startsWith "(" && !fn.name.startsWith "gosem.")))
 | none=>false
def chkMeth (P:Program)(S:FuncId→Bool)(meths:List String):Bool :=
 P.types.all fun i=>i.methods.all fun m=>!meths.contains m.name || (match m.func with|some (f,_)=>chkCall P S f|none=>true)
theorem callOk_of {P:Program}{S:FuncId→Bool}{f:FuncId}(h:chkCall P S f=true):CallOk P (fun f=>S f=true) f:=by
 unfold chkCall at h
 split at h
 ·rename_i fn hf
  simp only [Bool.and_eq_true,Bool.or_eq_true,Bool.not_eq_true',Option.isNone_iff_eq_none] at h
  obtain ⟨h1,h2⟩:=h
  refine ⟨fn,hf,h1,?_⟩
  rcases h2 with ⟨a,b⟩|⟨⟨⟨a,b⟩,c⟩,d⟩
  ·exact .inl ⟨a,b⟩
  ·refine .inr ⟨by rw [a];rfl,b,c,?_⟩
   exact d
 ·cases h
theorem methOk_of {P:Program}{S:FuncId→Bool}{meths:List String}(h:chkMeth P S meths=true):∀ m∈meths,MethOk P (CallOk P (fun f=>S f=true)) m:=by
 intro name hn t i m f b hi hm hf
 by_cases ht:t<P.types.size
 ·have hi':P.types[t]?=some i:=by
   have:P.info? t=_:=hi
   unfold Tables.info? at this
   rw [if_pos ht] at this
   exact this
  unfold chkMeth at h
  rw [Array.all_eq_true_iff_forall_mem] at h
  have h1:=h i (Array.mem_of_getElem? hi')
  rw [Array.all_eq_true_iff_forall_mem] at h1
  have hmem:m∈i.methods:=Array.mem_of_find?_eq_some hm
  have h2:=h1 m hmem
  have hname:(m.name == name)=true:=by
   have:=Array.find?_some hm
   exact this
  rw [hf] at h2
  have e:m.name=name:=by simpa using hname
  rw [e] at h2
  have hc:meths.contains name=true:=by simpa using hn
  rw [hc] at h2
  exact callOk_of (by simpa using h2)
 ·have:=made_methods (T:=P.toTables) (Nat.le_of_not_lt ht) hi
  rw [this] at hm
  simp at hm
theorem bodies:goods.all (chkBody Tryd.prog Sg ms)=true:=by kernel_rfl
theorem meths_ok:chkMeth Tryd.prog Sg ms=true:=by kernel_rfl
theorem rules:Rules Tryd.prog Sg ms true:=by
 refine ⟨fun f hf=>?_,methOk_of meths_ok⟩
 have h:=List.all_eq_true.1 bodies f (by simpa [Sg] using hf)
 unfold chkBody at h
 split at h
 ·rename_i fn hfn
  rw [Bool.and_eq_true] at h
  obtain ⟨h1,h2⟩:=h
  split at h2
  ·rename_i c hc
   exact ⟨fn,c,hfn,by simpa using h1,hc,h2⟩
  ·cases h2
 ·cases h
end Go.Proofs.YtcgabodkegcpgaaDoor.Br
