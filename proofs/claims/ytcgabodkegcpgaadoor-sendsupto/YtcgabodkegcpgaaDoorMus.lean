/- The bridge, fourth stone: what a lone run in the frozen world comes to, on every tape, a goroutine in company comes to by its own steps, whatever it draws. -/
import Derived.Test.YtcgabodkegcpgaaDoorTad
import Derived.Conc.Machine
import Derived.Conc.Token
set_option linter.unusedVariables false
set_option linter.unusedSimpArgs false
set_option maxHeartbeats 20000000
set_option maxRecDepth 100000
namespace Go.Proofs.YtcgabodkegcpgaaDoor.Br
variable {P:Program} {S:FuncId→Bool} {meths:List String} {st:Bool} {sft:Nat→Nat}
open Go.Conc (G)
inductive Must (P:Program) (main:Bool) (D:World→World→Array Event→Prop) (Stop:Goroutine→World→Prop):Goroutine→World→Prop where
 | stop {g:Goroutine} {w:World}:Stop g w→Must P main D Stop g w
 | step {g:Goroutine} {w:World} (g':Nat→Goroutine) (w':Nat→World) (es:Nat→Array Event):g.status=.running→(∀ d,stepG P main g (w.at d)=.go (g' d) (w' d) (es d))→(∀ d,D (w.at d) (w' d) (es d)) →
   (∀ d,Must P main D Stop (g' d) (w' d))→Must P main D Stop g w
def DL (st:Bool)(sft:Nat→Nat)(w w':World)(es:Array Event):Prop:=Kept sft w w'∧(∀ e∈es,Off sft (st=true) w'.heap.size e)∧(w'.tape,w'.os,w'.output)=(w.tape,w.os,w.output)
theorem Must.mono {main:Bool}{D D':World→World→Array Event→Prop}{Stop Stop':Goroutine→World→Prop}{g:Goroutine}{w:World}(h:Must P main D Stop g w)(hD:∀ w w' es,D w w' es→D' w w' es)(hS:∀ g w,Stop g w→Stop' g w):Must P main D' Stop' g w:=by
 induction h with
 | stop h=>exact .stop (hS _ _ h)
 | step g' w' es h1 h2 h3 _ ih=>exact .step g' w' es h1 h2 (fun d=>hD _ _ _ (h3 d)) ih
theorem Must.then {main:Bool}{D:World→World→Array Event→Prop}{Stop Stop':Goroutine→World→Prop}{g:Goroutine}{w:World}(h:Must P main D Stop g w)(hS:∀ g w,Stop g w→Must P main D Stop' g w):Must P main D Stop' g w:=by
 induction h with
 | stop h=>exact hS _ _ h
 | step g' w' es h1 h2 h3 _ ih=>exact .step g' w' es h1 h2 h3 ih
theorem Must.keep {main:Bool}{Stop:Goroutine→World→Prop}{g:Goroutine}{w:World}(h:Must P main (DL st sft) Stop g w):Must P main (DL st sft) (fun g' w'=>Stop g' w'∧Kept sft w w') g w:=by
 induction h with
 | stop h=>exact .stop ⟨h,.refl _ _⟩
 | @step g w g' w' es h1 h2 h3 _ ih =>
  refine .step g' w' es h1 h2 h3 fun d=>(ih d).mono (fun _ _ _ x=>x) fun g2 w2 x=>⟨x.1,?_⟩
  have hk:Kept sft w (w.at d):=.of_heap _ rfl
  exact hk.trans ((h3 d).1.trans x.2)
def tl:List Frame→List Item→List Frame→List Frame
 | [],_,base=>base
 | [c],k,base=>c.app k::base
 | c::d::l,k,base=>c::tl (d::l) k base
def real (fr:Frame)(above:List Frame)(k:List Item)(base:List Frame):Goroutine :=
 match above with
 | []=>G (fr.app k) base
 | c::l=>G fr (tl (c::l) k base)
theorem real_running (fr:Frame)(above:List Frame)(k:List Item)(base:List Frame):(real fr above k base).status=.running:=by cases above<;>rfl
structure OkS (P:Program) (S:FuncId→Bool) (meths:List String) (st:Bool) (fr:Frame) (above:List Frame):Prop where
 top:OkF P S meths st fr
 rest:∀ c∈above,OkF P S meths st c∧Susp c
def Ready (fr:Frame)(above:List Frame)(k k0:List Item):Prop:=above=[]∧(fr.mode≠.run∨(fr.todo=[]∧¬ (k=[]∧k0=[])))
theorem step_all (R:Rules P S meths st){fr:Frame}{above:List Frame}(hO:OkS P S meths st fr above){k k0:List Item}{base base0:List Frame}(hk0:∀ id,exitTo id k0=none)(hr:¬ Ready fr above k k0){v w:World}(hl:Lk sft v w){N:Nat}(hw:Win N v w){main main':Bool}
  (hN:(stepG P main (real fr above k base) w).wd≤w.drawn+N) :
  (∃ o v' es,stepG P main' (real fr above k0 base0) v=.ended o v' es) ∨
  ∃ fr' above' v' w' es,stepG P main' (real fr above k0 base0) v=.go (real fr' above' k0 base0) v' es∧stepG P main (real fr above k base) w=.go (real fr' above' k base) w' es∧Both st sft v v' w w' es∧OkS P S meths st fr' above':=by
 cases above with
 | nil =>
  have hm:fr.mode=.run:=Classical.byContradiction fun h=>hr ⟨rfl,.inl h⟩
  have hne:fr.todo≠[]∨k=[]∧k0=[]:=by
   by_cases h:fr.todo=[]
   ·exact .inr (Classical.byContradiction fun h'=>hr ⟨rfl,.inr ⟨h,h'⟩⟩)
   ·exact .inl h
  rcases run_sim (kk:=k) (kk':=k0) (cs:=base) (cs':=base0) (main:=main) (main':=main') R hO.top hm hne hk0 hl hw hN with h|⟨fr',v',w',es,hb,hF',⟨h1,h2⟩|⟨hs,h1,h2⟩⟩
  ·exact .inl h
  ·exact .inr ⟨fr',[],v',w',es,h1,h2,hb,hF',fun c hc=>by cases hc⟩
  ·exact .inr ⟨fr',[fr],v',w',es,h1,h2,hb,hF',fun c hc=>by
    rcases List.mem_cons.1 hc with rfl|hc
    ·exact ⟨hO.top,hs⟩
    ·cases hc⟩
 | cons c l =>
  obtain ⟨hc,hcs⟩:=hO.rest c (List.mem_cons_self ..)
  by_cases hm:fr.mode=.run
  ·have e:∀ k base,real fr (c::l) k base=G (fr.app []) (tl (c::l) k base):=fun k base=>by rw [app_nil];rfl
   rw [e] at hN
   rw [e,e]
   rcases run_sim (kk:=[]) (kk':=[]) (cs:=tl (c::l) k base) (cs':=tl (c::l) k0 base0) (main:=main) (main':=main') R hO.top hm (.inr ⟨rfl,rfl⟩) (fun _=>rfl) hl hw hN with h|⟨fr',v',w',es,hb,hF',⟨h1,h2⟩|⟨hs,h1,h2⟩⟩
   ·exact .inl h
   ·exact .inr ⟨fr',c::l,v',w',es,by rw [h1,app_nil];rfl,by rw [h2,app_nil];rfl,hb,hF',hO.rest⟩
   ·refine .inr ⟨fr',fr::c::l,v',w',es,by rw [h1,app_nil];rfl,by rw [h2,app_nil];rfl,hb,hF',fun x hx=>?_⟩
    rcases List.mem_cons.1 hx with rfl|hx
    ·exact ⟨hO.top,hs⟩
    ·exact hO.rest x hx
  ·cases l with
   | nil =>
    rcases pop_sim (c:=c.app k) (c':=c.app k0) (cs:=base) (cs':=base0) (main:=main) (main':=main') hO.top.leaves hm hl hw hN with h|⟨v',w',es,hb,⟨x,h1,h2⟩|⟨ch,h1,h2⟩⟩
    ·exact .inl h
    ·exact .inr ⟨c.finish x,[],v',w',es,by rw [show real fr [c] k0 base0=G fr (c.app k0::base0) from rfl,h1,app_finish hcs];rfl,by rw [show real fr [c] k base=G fr (c.app k::base) from rfl,h2,app_finish hcs];rfl,hb,hc.finish x,fun x hx=>by cases hx⟩
    ·exact .inr ⟨c.raise ch,[],v',w',es,by rw [show real fr [c] k0 base0=G fr (c.app k0::base0) from rfl,h1,app_raise];rfl,by rw [show real fr [c] k base=G fr (c.app k::base) from rfl,h2,app_raise];rfl,hb,hc.raise ch,fun x hx=>by cases hx⟩
   | cons d l =>
    rcases pop_sim (c:=c) (c':=c) (cs:=tl (d::l) k base) (cs':=tl (d::l) k0 base0) (main:=main) (main':=main') hO.top.leaves hm hl hw hN with h|⟨v',w',es,hb,⟨x,h1,h2⟩|⟨ch,h1,h2⟩⟩
    ·exact .inl h
    ·exact .inr ⟨c.finish x,d::l,v',w',es,h1,h2,hb,hc.finish x,fun y hy=>hO.rest y (List.mem_cons_of_mem _ hy)⟩
    ·exact .inr ⟨c.raise ch,d::l,v',w',es,h1,h2,hb,hc.raise ch,fun y hy=>hO.rest y (List.mem_cons_of_mem _ hy)⟩
def floor:Frame:={ fn:=0,tmps:=#[],todo:=[.code (.refuse "")],defers:=[{ target:=.nil,args:=#[] }],mode:=.run,kind:=.normal }
theorem floor_finish (x:Value)(v:World):∃ o v' es,stepG P true (G (floor.finish x) []) v=.ended o v' es:=⟨_,_,_,rfl⟩
theorem floor_raise (ch:List PanicEntry)(v:World):∃ o v' es,stepG P true (G (floor.raise ch) []) v=.ended o v' es:=⟨_,_,_,rfl⟩
theorem lone_real (fr:Frame)(above:List Frame)(k0:List Item)(base:List Frame):∃ fr1 cs1,real fr above k0 base=G fr1 cs1:=by
 cases above with
 | nil=>exact ⟨_,_,rfl⟩
 | cons c l=>exact ⟨_,_,rfl⟩
def loneG (g:Goroutine)(w:World):Machine:=lone g.frame g.callers w
theorem loneG_go {g g':Goroutine}{fr fr':Frame}{cs cs':List Frame}{w w':World}{es:Array Event}(hg:g=G fr cs)(hg':g'=G fr' cs')(h:stepG P true g w=.go g' w' es):step P (loneG g w)=.next (loneG g' w'):=by
 subst hg hg'
 refine step_lone_go ?_
 show (stepG P true (G fr cs) w).bare=_
 rw [h];rfl
theorem loneG_ended {g:Goroutine}{fr:Frame}{cs:List Frame}{w w':World}{o:Outcome}{es:Array Event}(hg:g=G fr cs)(h:stepG P true g w=.ended o w' es):step P (loneG g w)=.ended o w':=by
 subst hg
 refine step_lone_ended ?_
 show (stepG P true (G fr cs) w).bare=_
 rw [h];rfl
theorem runN_succ {n:Nat}{m m':Machine}(h:runN P (n+1) m=.next m'):∃ m1,step P m=.next m1∧runN P n m1=.next m':=by
 simp only [runN] at h
 split at h
 ·rename_i m1 e;exact ⟨m1,e,h⟩
 ·rename_i e;exact absurd h (e m')
theorem app_cancel {fr fr':Frame}{k:List Item}(h:fr.app k=fr'.app k):fr=fr':=by
 cases fr;cases fr'
 simp only [Frame.app,Frame.mk.injEq,List.append_cancel_right_eq] at h
 simp only [Frame.mk.injEq]
 exact h
theorem Lk.at {v w:World}(h:Lk sft v w)(d:Nat):Lk sft v (w.at d):=⟨h.heap,h.soft,h.sight,h.os,h.output⟩
def frz (sft:Nat→Nat)(w:World)(tape:Nat→Question→Nat):World:={ w with heap:=w.heap.mapIdx (fun i o=>fz (sft i) o),tape:=tape,drawn:=0 }
theorem lk_frz {w:World}(hs:∀ i:Nat,sft i≠0→∃ c t,w.heap[i]?=some (.cells c t (0,0)))(hc:Clear w)(tape:Nat→Question→Nat):Lk sft (frz sft w tape) w :=
 ⟨fun i=>by simp [frz],hs,hc,rfl,rfl⟩
section tape
variable (pos:Nat→Nat) (ans:Nat→Nat→Question→Nat)
open Classical in
noncomputable def glued (x:Nat)(q:Question):Nat :=
 if h:∃ j,pos j≤x∧x<pos (j+1) then ans h.choose (x - pos h.choose) q else 0
theorem glued_at (hmono:∀ j,pos j≤pos (j+1)){j i:Nat}(hi:pos j+i<pos (j+1))(q:Question):glued pos ans (pos j+i) q=ans j i q:=by
 have h:∃ j',pos j'≤pos j+i∧pos j+i<pos (j'+1):=⟨j,Nat.le_add_right _ _,hi⟩
 have hle:∀ a b,a≤b→pos a≤pos b:=fun a b hab=>by
  induction hab with
  | refl=>exact Nat.le_refl _
  | step _ ih=>exact Nat.le_trans ih (hmono _)
 have e:h.choose=j:=by
  obtain ⟨h1,h2⟩:=h.choose_spec
  rcases Nat.lt_trichotomy h.choose j with g|g|g
  ·have:=hle (h.choose+1) j g;omega
  ·exact g
  ·have:=hle (j+1) h.choose g;omega
 unfold glued
 rw [dif_pos h,e]
 congr 1
 omega
end tape
section chase
variable (P) (main:Bool) (D:World→World→Array Event→Prop) (Stop:Goroutine→World→Prop)
noncomputable def evil (g:Goroutine)(w:World):Nat :=
 open Classical in if h:∃ d,¬ ∃ g' w' es,stepG P main g (w.at d)=.go g' w' es∧D (w.at d) w' es∧Must P main D Stop g' w' then h.choose else 0
theorem evil_spec {g:Goroutine}{w:World}(hr:g.status=.running)(h:¬ Must P main D Stop g w):¬ ∃ g' w' es,stepG P main g (w.at (evil P main D Stop g w))=.go g' w' es∧D (w.at (evil P main D Stop g w)) w' es∧Must P main D Stop g' w':=by
 have hx:∃ d,¬ ∃ g' w' es,stepG P main g (w.at d)=.go g' w' es∧D (w.at d) w' es∧Must P main D Stop g' w':=by
  refine Classical.byContradiction fun hn=>h ?_
  have hall:∀ d,∃ g' w' es,stepG P main g (w.at d)=.go g' w' es∧D (w.at d) w' es∧Must P main D Stop g' w':=fun d=>Classical.byContradiction fun hd=>hn ⟨d,hd⟩
  exact .step (fun d=>(hall d).choose) (fun d=>(hall d).choose_spec.choose) (fun d=>(hall d).choose_spec.choose_spec.choose) hr (fun d=>(hall d).choose_spec.choose_spec.choose_spec.1) (fun d=>(hall d).choose_spec.choose_spec.choose_spec.2.1) (fun d=>(hall d).choose_spec.choose_spec.choose_spec.2.2)
 unfold evil
 rw [dif_pos hx]
 exact hx.choose_spec
noncomputable def chase (g:Goroutine)(w:World):Nat→Goroutine × World
 | 0=>(g,w)
 | j+1=>match stepG P main (chase g w j).1 ((chase g w j).2.at (evil P main D Stop (chase g w j).1 (chase g w j).2)) with
  | .go g' w' _=>(g',w')
  | _=>chase g w j
noncomputable def eats (g:Goroutine)(w:World)(j:Nat):Nat :=
 (stepG P main (chase P main D Stop g w j).1 ((chase P main D Stop g w j).2.at (evil P main D Stop (chase P main D Stop g w j).1 (chase P main D Stop g w j).2))).wd - evil P main D Stop (chase P main D Stop g w j).1 (chase P main D Stop g w j).2
noncomputable def places (g:Goroutine)(w:World):Nat→Nat
 | 0=>0
 | j+1=>places g w j+eats P main D Stop g w j
end chase
theorem must_of_lone (R:Rules P S meths st){fr0:Frame}(h0:OkF P S meths st fr0){k k0:List Item}(hk0:∀ id,exitTo id k0=none)(hk:k0=[]→k=[])(hrf:k0≠[]→k0=[.code (.refuse "")]){base:List Frame}{w0:World}(hs:∀ i:Nat,sft i≠0→∃ c t,w0.heap[i]?=some (.cells c t (0,0)))(hc:Clear w0)(main:Bool){F:Frame→World→Prop}
  (hrun:∀ v,Lk sft v w0→∃ n fr v',runN P n (loneG (G (fr0.app k0) [floor]) v)=.next (loneG (G fr [floor]) v')∧F fr v') :
  Must P main (DL st sft) (fun g w=>∃ fr v,g=G (fr.app k) base∧Lk sft v w∧F (fr.app k0) v∧OkF P S meths st fr) (G (fr0.app k) base) w0:=by
 refine Classical.byContradiction fun hno=>?_
 generalize hSt:(fun g w=>∃ fr v,g=G (fr.app k) base∧Lk sft v w∧F (fr.app k0) v∧OkF P S meths st fr)=Stop at hno
 have hStop:∀ g w,(∃ fr v,g=G (fr.app k) base∧Lk sft v w∧F (fr.app k0) v∧OkF P S meths st fr)→Stop g w:=fun g w h=>by rw [← hSt];exact h
 have hmono:∀ j,places P main (DL st sft) Stop (G (fr0.app k) base) w0 j≤places P main (DL st sft) Stop (G (fr0.app k) base) w0 (j+1):=fun j=>Nat.le_add_right _ _
 generalize hτ:glued (places P main (DL st sft) Stop (G (fr0.app k) base) w0) (fun j i q=>(chase P main (DL st sft) Stop (G (fr0.app k) base) w0 j).2.tape (evil P main (DL st sft) Stop (chase P main (DL st sft) Stop (G (fr0.app k) base) w0 j).1 (chase P main (DL st sft) Stop (G (fr0.app k) base) w0 j).2+i) q)=τ
 have hτ':∀ j i q,i<eats P main (DL st sft) Stop (G (fr0.app k) base) w0 j→τ (places P main (DL st sft) Stop (G (fr0.app k) base) w0 j+i) q=(chase P main (DL st sft) Stop (G (fr0.app k) base) w0 j).2.tape (evil P main (DL st sft) Stop (chase P main (DL st sft) Stop (G (fr0.app k) base) w0 j).1 (chase P main (DL st sft) Stop (G (fr0.app k) base) w0 j).2+i) q:=fun j i q hi=>by
  rw [← hτ]
  exact glued_at _ _ hmono (by show _<_+_;omega) q
 obtain ⟨n,frF,vF,hn,hF⟩:=hrun (frz sft w0 τ) (lk_frz hs hc τ)
 have key:∀ (r j:Nat) (fr:Frame) (above:List Frame) (v:World),(chase P main (DL st sft) Stop (G (fr0.app k) base) w0 j).1=real fr above k base→OkS P S meths st fr above→Lk sft v (chase P main (DL st sft) Stop (G (fr0.app k) base) w0 j).2→v.tape=τ →
   v.drawn=places P main (DL st sft) Stop (G (fr0.app k) base) w0 j→¬ Must P main (DL st sft) Stop (chase P main (DL st sft) Stop (G (fr0.app k) base) w0 j).1 (chase P main (DL st sft) Stop (G (fr0.app k) base) w0 j).2 →
   runN P r (loneG (real fr above k0 [floor]) v)=.next (loneG (G frF [floor]) vF)→False:=by
  intro r
  induction r with
  | zero =>
   intro j fr above v hg hO hl _ _ hM hr
   have e:=Stepped.next.inj hr
   have e1:(loneG (real fr above k0 [floor]) v).gs=(loneG (G frF [floor]) vF).gs:=by rw [e]
   have e2:(loneG (real fr above k0 [floor]) v).world=(loneG (G frF [floor]) vF).world:=by rw [e]
   have e3:v=vF:=e2
   cases above with
   | nil =>
    have e4:fr.app k0=frF:=by
     have:=congrArg (fun a=>(a[0]?).map (·.frame)) e1
     simpa [loneG,lone,real,G] using this
    subst e4
    refine hM (.stop ?_)
    exact hStop _ _ ⟨fr,v,hg,hl,by rw [e3];exact hF,hO.top⟩
   | cons c l =>
    have:=congrArg (fun a=>(a[0]?).map (·.callers.length)) e1
    cases l with
    | nil=>simp [loneG,lone,real,G,tl] at this
    | cons d l =>
     have hlen:∀ (d:Frame) (l:List Frame),0<(tl (d::l) k0 [floor]).length:=fun d l=>by cases l<;>simp [tl]
     have h2:=hlen d l
     simp [loneG,lone,real,G,tl] at this
     simp [this] at h2
  | succ r ih =>
   intro j fr above v hg hO hl ht hd hM hr
   obtain ⟨m1,hs1,hr1⟩:=runN_succ hr
   obtain ⟨fr1,cs1,hreal⟩:=lone_real fr above k0 [floor]
   by_cases hR:Ready fr above k k0
   ·
    obtain ⟨rfl,hR⟩:=hR
    by_cases hm:fr.mode≠.run
    ·have hlv:Lk (fun _=>0) v v:=⟨fun i=>by
      rw [hl.heap i]
      generalize (chase P main (DL st sft) Stop (G (fr0.app k) base) w0 j).2.heap[i]?=z
      cases z with
      | none=>rfl
      | some o=>simp [fz_fz],fun _ h=>absurd rfl h,trivial,rfl,rfl⟩
     have hpop:=pop_sim (P:=P) (st:=st) (sft:=fun _=>0) (fr:=fr.app k0) (c:=floor) (c':=floor) (cs:=[]) (cs':=[]) (v:=v) (w:=v) (main:=true) (main':=true) (N:=(stepG P true (G (fr.app k0) [floor]) v).wd) (hO.top.leaves.app k0) (by cases fr;exact hm) hlv (fun _ _ _=>rfl) (by omega)
     have hend:∀ (g':Goroutine) (fr':Frame) (v':World),g'=G fr' []→(∃ o v'' es,stepG P true g' v'=.ended o v'' es)→runN P r (loneG g' v')=.next (loneG (G frF [floor]) vF)→False:=by
      intro g' fr' v' hg' ⟨o,v'',es,he⟩ hr
      cases r with
      | zero =>
       have:=congrArg (fun m=>(m.gs[0]?).map (·.callers.length)) (Stepped.next.inj hr)
       subst hg'
       simp [loneG,lone,G] at this
      | succ r =>
       obtain ⟨m2,h2,_⟩:=runN_succ hr
       rw [loneG_ended hg' he] at h2
       cases h2
     rcases hpop with ⟨o,v',es,h⟩|⟨v',w',es,hb,⟨x,h1,_⟩|⟨ch,h1,_⟩⟩
     ·rw [show real fr [] k0 [floor]=G (fr.app k0) [floor] from rfl,loneG_ended rfl h] at hs1;cases hs1
     ·rw [show real fr [] k0 [floor]=G (fr.app k0) [floor] from rfl,loneG_go rfl rfl h1] at hs1
      obtain rfl:=Stepped.next.inj hs1
      exact hend _ _ _ rfl (floor_finish x v') hr1
     ·rw [show real fr [] k0 [floor]=G (fr.app k0) [floor] from rfl,loneG_go rfl rfl h1] at hs1
      obtain rfl:=Stepped.next.inj hs1
      exact hend _ _ _ rfl (floor_raise ch v') hr1
    ·obtain ⟨htd,hkk⟩:=hR.resolve_left hm
     have hk0':k0≠[]:=fun e=>hkk ⟨hk e,e⟩
     have hk0e:=hrf hk0'
     have hmr:fr.mode=.run:=Classical.byContradiction hm
     have he:∃ o v' es,stepG P true (real fr [] k0 [floor]) v=.ended o v' es:=by
      rw [hk0e]
      obtain ⟨f,tmps,todo,defers,mode,kind,round⟩:=fr
      dsimp only at hmr htd
      subst hmr htd
      exact ⟨_,_,_,rfl⟩
     obtain ⟨o,v',es,he⟩:=he
     rw [loneG_ended hreal he] at hs1;cases hs1
   ·have hN:(stepG P main (real fr above k base) ((chase P main (DL st sft) Stop (G (fr0.app k) base) w0 j).2.at (evil P main (DL st sft) Stop (chase P main (DL st sft) Stop (G (fr0.app k) base) w0 j).1 (chase P main (DL st sft) Stop (G (fr0.app k) base) w0 j).2))).wd≤((chase P main (DL st sft) Stop (G (fr0.app k) base) w0 j).2.at (evil P main (DL st sft) Stop (chase P main (DL st sft) Stop (G (fr0.app k) base) w0 j).1 (chase P main (DL st sft) Stop (G (fr0.app k) base) w0 j).2)).drawn+eats P main (DL st sft) Stop (G (fr0.app k) base) w0 j:=by
     rw [← hg]
     show _≤evil P main (DL st sft) Stop _ _+(_ - evil P main (DL st sft) Stop _ _)
     omega
    rcases step_all (base0:=[floor]) (main:=main) (main':=true) R hO hk0 hR (hl.at _) (N:=eats P main (DL st sft) Stop (G (fr0.app k) base) w0 j) (fun i q hi=>by rw [ht,hd];exact hτ' j i q hi) hN with ⟨o,v',es,h⟩|⟨fr',above',v',w',es,h1,h2,hb,hO'⟩
    ·rw [loneG_ended hreal h] at hs1;cases hs1
    ·obtain ⟨fr2,cs2,hreal'⟩:=lone_real fr' above' k0 [floor]
     rw [loneG_go hreal hreal' h1] at hs1
     obtain rfl:=Stepped.next.inj hs1
     have hrun':(chase P main (DL st sft) Stop (G (fr0.app k) base) w0 j).1.status=.running:=by rw [hg];exact real_running _ _ _ _
     have h2':=h2
     rw [← hg] at h2'
     have hch:chase P main (DL st sft) Stop (G (fr0.app k) base) w0 (j+1)=(real fr' above' k base,w'):=by simp only [chase,h2']
     obtain ⟨c,hdr⟩:=hb.drew
     have hbad:=evil_spec P main (DL st sft) Stop hrun' hM
     have hnm:¬ Must P main (DL st sft) Stop (real fr' above' k base) w':=fun hm=>hbad ⟨_,_,_,h2',⟨⟨hb.kept.same,hb.kept.size,hb.kept.new⟩,hb.off,hdr.all⟩,hm⟩
     refine ih (j+1) fr' above' v' (by rw [hch]) hO' (by rw [hch];exact hb.lk) (hdr.tv.trans ht) ?_ (by rw [hch];exact hnm) hr1
     show v'.drawn=places P main (DL st sft) Stop (G (fr0.app k) base) w0 j+eats P main (DL st sft) Stop (G (fr0.app k) base) w0 j
     have:eats P main (DL st sft) Stop (G (fr0.app k) base) w0 j=c:=by
      unfold eats
      rw [h2']
      show w'.drawn - _=c
      rw [hdr.dw]
      show evil P main (DL st sft) Stop _ _+c - evil P main (DL st sft) Stop _ _=c
      omega
     rw [hdr.dv,hd,this]
 exact key n 0 fr0 [] (frz sft w0 τ) rfl ⟨h0,fun c hc=>by cases hc⟩ (lk_frz hs hc τ) rfl rfl hno hn
variable {P:Program} {S:FuncId→Bool} {meths:List String} {st:Bool} {sft:Nat→Nat}
open Go.Conc (G)
def Dry {α:Type}(P:Program):Sem α→Prop
 | .pure _=>True
 | .load _ _ k=>∀ v,Dry P (k v)
 | .store _ _ _ k=>Dry P k
 | .new _ k=>∀ r,Dry P (k r)
 | .shape _ k=>∀ s,Dry P (k s)
 | .freeze _ _ k=>Dry P k
 | .frozen _ k=>∀ b,Dry P (k b)
 | .getObj _ k=>∀ o,Dry P (k o)
 | .setObj _ _ k=>Dry P k
 | .choose _ _=>False
 | .sys _ _=>False
 | .program k=>Dry P (k P)
 | .mark _ k=>Dry P k
 | .halt _=>True
theorem dry_bnd {α β:Type}{e:Sem α}{f:α→Sem β}:Dry P e→(∀ a,Dry P (f a))→Dry P (e >>= f):=by
 intro h hf
 show Dry P (e.bind f)
 induction e with
 | pure a=>exact hf a
 | load m a k ih=>exact fun v=>ih v (h v)
 | store m a v k ih=>exact ih h
 | new o k ih=>exact fun r=>ih r (h r)
 | shape r k ih=>exact fun s=>ih s (h s)
 | freeze a n k ih=>exact ih h
 | frozen a k ih=>exact fun b=>ih b (h b)
 | getObj r k ih=>exact fun o=>ih o (h o)
 | setObj r o k ih=>exact ih h
 | choose q k ih=>exact h.elim
 | sys c k ih=>exact h.elim
 | program k ih=>exact ih P h
 | mark m k ih=>exact ih h
 | halt x=>trivial
theorem dry_drawn {α:Type}(p:Program)(e:Sem α)(W:Prop)(Φ:α→Prop):∀ (w:World) (es:Array Event),Tame p W Φ e→Dry p e→Clear w→(e.runT p w es).1.world.drawn=w.drawn:=by
  induction e with
  | pure a=>intro w es _ _ _;rfl
  | load m a k ih =>
    intro w es h hd hc
    simp only [Sem.runT]
    split
    · exact ih _ _ _ (h _) (hd _) hc
    · split
      · exact ih _ _ _ (h _) (hd _) hc
      · rfl
  | store m a x k ih =>
    intro w es h hd hc
    cases x<;>simp only [Sem.runT]<;>first
      | rfl
      | (split
         · split
           · rfl
           · exact ih (w.setCell _ _) _ h.2 hd hc
         · split
           · rename_i w' t hs
             rw [← farStore_ok hs]
             exact ih w' _ h.2 hd hc
           · rfl)
  | new o k ih=>intro w es h hd hc;simp only [Sem.runT];exact ih _ { w with heap:=w.heap.push o } _ (h.2 _) (hd _) hc
  | shape r k ih=>intro w es h hd hc;simp only [Sem.runT];exact ih _ _ _ (h _) (hd _) hc
  | freeze a n k ih=>intro w es h;exact h.elim
  | frozen a k ih=>intro w es h hd hc;simp only [Sem.runT];exact ih _ _ _ (t_of_doomed (h _)) (hd _) hc
  | getObj r k ih =>
    intro w es h hd hc
    simp only [Sem.runT]
    split
    · rfl
    · exact ih _ _ _ (h.1 _) (hd _) hc
    · rfl
  | setObj r o k ih=>intro w es h;exact h.elim
  | choose q k ih=>intro w es h hd;exact hd.elim
  | sys c k ih=>intro w es h;exact h.elim
  | program k ih=>intro w es h hd hc;simp only [Sem.runT];exact ih _ _ _ h hd hc
  | mark m k ih=>intro w es h hd hc;simp only [Sem.runT];exact ih _ _ h.2.2 hd hc
  | halt x=>intro w es _ _ _;rfl
theorem dry_listMapM {α β:Type}(f:α→Sem β)(h:∀ a,Dry P (f a)):∀ l:List α,Dry P (l.mapM f)
 | []=>by simp only [List.mapM_nil];exact trivial
 | a::l=>by
  simp only [List.mapM_cons]
  exact dry_bnd (h a) fun _=>dry_bnd (dry_listMapM f h l) fun _=>trivial
theorem dry_mapM {α β:Type}(f:α→Sem β)(h:∀ a,Dry P (f a))(xs:Array α):Dry P (xs.mapM f):=by
 rw [Array.mapM_eq_mapM_toList]
 exact dry_bnd (dry_listMapM f h _) fun _=>trivial
theorem dry_typeInfo (t:TypeId):Dry P (typeInfo t):=by
 show Dry P ((match P.info? t with|some d=>pure d|none=>stuck "no such type"):Sem TypeInfo)
 split<;>exact trivial
theorem dry_underlying (t:TypeId):Dry P (underlying t):=by
 show Dry P ((match P.underlying t with|some d=>pure d|none=>stuck "no such type"):Sem TypeDesc)
 split<;>exact trivial
theorem dry_loadCellsFrom (a:Addr)(n:Nat):∀ (i:Nat) (acc:Array Value),Dry P (loadCellsFrom a i n acc):=by
 induction n with
 | zero=>exact fun _ _=>trivial
 | succ n ih=>exact fun i acc v=>ih _ _
theorem dry_loadVar (t:TypeId)(a:Addr):Dry P (loadVar t a):=by
 unfold loadVar
 refine dry_bnd ?_ fun b=>?_
 ·unfold isAgg
  refine dry_bnd (dry_underlying _) fun u=>?_
  split<;>exact trivial
 ·split
  ·exact dry_bnd (dry_bnd (dry_typeInfo _) fun _=>trivial) fun n=>dry_bnd (dry_loadCellsFrom _ _ _ _) fun _=>trivial
  ·exact fun _=>trivial
theorem dry_results (fn:Func)(tmps:Array Value):Dry P (results fn tmps):=by
 unfold results
 refine dry_bnd (dry_mapM _ (fun r=>?_) _) fun _=>trivial
 split
 ·exact trivial
 ·refine dry_bnd ?_ fun _=>dry_loadVar _ _
  unfold asAddr
  split<;>exact trivial
structure Fit (sft:Nat→Nat) (w:World):Prop where
 soft:∀ i:Nat,sft i≠0→∃ c t,w.heap[i]?=some (.cells c t (0,0))
 clear:Clear w
theorem Lk.fit {v w:World}(h:Lk sft v w):Fit sft w:=⟨h.soft,h.sight⟩
theorem step_returning {fr:Frame}(hL:OkL P fr)(hm:fr.mode=.returning){fn:Func}(hf:P.funcs[fr.fn]?=some fn)(m:Bool)(c:Frame)(cs:List Frame)(u:World):stepG P m (G fr (c::cs)) u =
  GStep.after (seen P fr.fn ((results fn fr.tmps).runT P u #[]).2) (match ((results fn fr.tmps).runT P u #[]).1 with
   | .ok v w=>.go (G (c.finish v) cs) w
   | .halt (.stuck s) w=>.ended (.stuck s (Frame.pos P fr)) w
   | .halt _ w=>.ended (.stuck "return: the result variables cannot be read" (Frame.pos P fr)) w):=by
 obtain ⟨f,tmps,todo,defers,mode,kind,round⟩:=fr
 obtain ⟨hkind,hround,hdefers,_⟩:=hL
 dsimp only at hkind hround hdefers hm hf
 subst hkind hround hdefers hm
 simp only [stepG,G,unwind,hf,doReturn]
 rcases (Sem.runT P (results fn tmps) u #[]) with ⟨r,es⟩
 cases r with
 | ok a b=>rfl
 | halt h b=>cases h<;>rfl
theorem must_calls (R:Rules P S meths st){f:FuncId}(hf:S f=true){args:Array Value}{w0:World}(hfit:Fit sft w0)(main:Bool){Q:Value→World→Prop}
  (h:∀ v,Lk sft v w0→Calls P f args v (fun e v'=>match e with|.returned x=>Q x v'|_=>False))(c:Frame)(cs:List Frame) :
  Must P main (DL st sft) (fun g w=>∃ x v,g=G (c.finish x) cs∧Lk sft v w∧Q x v) (G (Frame.enter P f args .normal) (c::cs)) w0:=by
 have h0:OkF P S meths st (Frame.enter P f args .normal):=.enter R hf args
 have key:=must_of_lone (sft:=sft) (k:=[]) (k0:=[]) (base:=c::cs) R h0 (fun _=>rfl) (fun _=>rfl) (fun e=>absurd rfl e) hfit.soft hfit.clear main (F:=fun fr v=>∃ x,fr.leaving P v (.returned x)∧Q x v) (fun v hv=>by
  obtain ⟨e,w',fr,hR,hc,hfn,hlv⟩:=h v hv [floor]
  cases e with
  | returned x =>
   obtain ⟨n,hn⟩:=hc
   exact ⟨n,fr,w',by rw [app_nil];exact hn,x,hlv,hR⟩
  | panicked ch=>exact hR.elim
  | outgrown=>exact hR.elim)
 rw [app_nil] at key
 refine key.then fun g w ⟨fr,v,hg,hl,⟨x,hlv,hQ⟩,hO⟩=>?_
 rw [app_nil] at hg hlv
 subst hg
 have hmode:fr.mode≠.run:=by rw [hlv.1];simp
 obtain ⟨hm,hd,hk,fn,hf,hr⟩:=hlv
 have hpop:∀ d,∃ w' es,stepG P main (G fr (c::cs)) (w.at d)=.go (G (c.finish x) cs) w' es∧DL st sft (w.at d) w' es∧Lk sft v w':=by
  intro d
  have hw0:(stepG P main (G fr (c::cs)) (w.at d)).wd≤(w.at d).drawn+0:=by
   have e:stepG P main (G fr (c::cs)) (w.at d)=_:=step_returning (P:=P) hO.leaves hm hf main c cs (w.at d)
   rw [e,wd_after]
   have h1:=dry_drawn P (results fn fr.tmps) (st=true) _ (w.at d) #[] (t_results fn fr.tmps) (dry_results fn fr.tmps) hl.sight
   revert h1
   generalize (results fn fr.tmps).runT P (w.at d) #[]=r
   intro h1
   rcases r with ⟨r,es⟩
   cases r with
   | ok a b=>exact Nat.le_of_eq h1
   | halt a b=>cases a<;>exact Nat.le_of_eq h1
  have hv:∃ es,stepG P true (G fr (c::cs)) v=.go (G (c.finish x) cs) v es:=by
   have e:=step_returning (P:=P) hO.leaves hm hf true c cs v
   have h2:((results fn fr.tmps).runT P v #[]).1=.ok x v:=by rw [Sem.runT_fst];exact hr
   rw [e,h2]
   exact ⟨_,rfl⟩
  obtain ⟨es0,hv⟩:=hv
  rcases pop_sim (main':=true) (c':=c) (cs':=cs) hO.leaves hmode (hl.at d) (N:=0) (fun i q hi=>by omega) hw0 with ⟨o,v',es,h⟩|⟨v',w',es,hb,⟨x',h1,h2⟩|⟨ch,h1,h2⟩⟩
  ·rw [hv] at h;cases h
  ·rw [hv] at h1
   obtain ⟨e1,e2,_⟩:=GStep.go.inj h1
   obtain ⟨n,hdr⟩:=hb.drew
   refine ⟨w',es,?_,⟨⟨hb.kept.same,hb.kept.size,hb.kept.new⟩,hb.off,hdr.all⟩,by rw [e2];exact hb.lk⟩
   have e3:c.finish x=c.finish x':=congrArg Goroutine.frame e1
   rw [h2,e3]
  ·rw [hv] at h1
   obtain ⟨e1,e2,_⟩:=GStep.go.inj h1
   obtain ⟨n,hdr⟩:=hb.drew
   refine ⟨w',es,?_,⟨⟨hb.kept.same,hb.kept.size,hb.kept.new⟩,hb.off,hdr.all⟩,by rw [e2];exact hb.lk⟩
   have e3:c.finish x=c.raise ch:=congrArg Goroutine.frame e1
   rw [h2,e3]
 exact .step (fun _=>G (c.finish x) cs) (fun d=>(hpop d).choose) (fun d=>(hpop d).choose_spec.choose) rfl (fun d=>(hpop d).choose_spec.choose_spec.1) (fun d=>(hpop d).choose_spec.choose_spec.2.1)
  (fun d=>.stop ⟨x,v,rfl,(hpop d).choose_spec.choose_spec.2.2,hQ⟩)
theorem must_wp (R:Rules P S meths st){c:Code}(hc:okCode P S meths st c=true){a:Act}(ha:a.defers=[]){b:Frame}(hb:b.kind=.normal)(hbf:∃ fn,P.funcs[b.fn]?=some fn){w0:World}(hfit:Fit sft w0)(main:Bool){Q:Exit→Act→World→Prop}
  (hQ:∀ e a w,Q e a w→e=.normal∨e=.ret)(h:∀ v,Lk sft v w0→c.wp P Q a v)(k:List Item)(cs:List Frame) :
  Must P main (DL st sft) (fun g w=>∃ e a' v,Q e a' v∧Lk sft v w∧(e=.normal∧g=G (b.at a' k) cs∨e=.ret∧∃ todo,g=G { b.at a' todo with mode:=.returning } cs)) (G (b.at a (.code c::k)) cs) w0:=by
 have h0:OkF P S meths st (b.at a [.code c]):=⟨hb,rfl,ha,hbf,fun x hx=>by
  rcases List.mem_cons.1 hx with rfl|hx
  ·exact hc
  ·cases hx⟩
 have key:=must_of_lone (sft:=sft) (k:=k) (k0:=[.code (.refuse "")]) (base:=cs) R h0 (fun _=>rfl) (fun e=>by cases e) (fun _=>rfl) hfit.soft hfit.clear main
  (F:=fun fr v=>∃ e a',Q e a' v∧(e=.normal∧fr=b.at a' [.code (.refuse "")]∨e=.ret∧∃ todo,fr={ b.at a' todo with mode:=.returning })) (fun v hv=>by
  obtain ⟨e,a',w',hq,har⟩:=h v hv b [.code (.refuse "")] [floor]
  rcases hQ e a' w' hq with rfl|rfl
  ·obtain ⟨n,hn⟩:=har
   exact ⟨n,b.at a' [.code (.refuse "")],w',hn,_,a',hq,.inl ⟨rfl,rfl⟩⟩
  ·obtain ⟨todo,n,hn⟩:=har
   exact ⟨n,_,w',hn,_,a',hq,.inr ⟨rfl,todo,rfl⟩⟩)
 refine key.mono (fun _ _ _ h=>h) fun g w ⟨fr,v,hg,hl,⟨e,a',hq,he⟩,hO⟩=>⟨e,a',v,hq,hl,?_⟩
 rcases he with ⟨rfl,he⟩|⟨rfl,todo,he⟩
 ·obtain rfl:fr=b.at a' []:=app_cancel (k:=[.code (.refuse "")]) he
  exact .inl ⟨rfl,hg⟩
 ·refine .inr ⟨rfl,fr.todo ++ k,?_⟩
  rw [hg]
  cases fr
  simp only [Frame.app,Frame.at,Frame.mk.injEq] at he ⊢
  obtain ⟨h1,h2,h3,h4,h5,h6,h7⟩:=he
  subst h1 h2 h4 h5 h6 h7
  rfl
end Go.Proofs.YtcgabodkegcpgaaDoor.Br
namespace Go.Proofs.YtcgabodkegcpgaaDoor.Br
open Go.Conc
variable {P:Program} {st:Bool} {sft:Nat→Nat} {K K':World→Prop} {Still Still':Loc→Prop} {B B':Nat} {Mem:Nat→Prop} {Inb:Nat→Option Seat} {h:Nat}
theorem evC_more (hS:∀ l,Still l→Still' l)(hB:B≤B'){e:Event}(h:EvC Still B e):EvC Still' B' e:=by
 obtain ⟨a,h1,h2,h3⟩:=h
 exact ⟨a,h1,hS _ h2,Nat.lt_of_lt_of_le h3 hB⟩
theorem atIn_more (hK:∀ w,K' w→K w)(hS:∀ l,Still l→Still' l)(hB:B≤B'){main:Bool}{s:Seat}{g g₂:Goroutine}(h:AtIn P main K Still B s g g₂):AtIn P main K' Still' B' s g g₂:=by
 obtain ⟨h1,h2,h3,h4,h5,es,h6,h7⟩:=h
 exact ⟨h1,h2,h3,h4,h5,es,fun e he=>evC_more hS hB (h6 e he),fun w hw=>h7 w (hK w hw)⟩
theorem goes_more (hK:∀ w,K' w→K w)(hS:∀ l,Still l→Still' l)(hB:B≤B'){main:Bool}{Stop Stop':Goroutine→World→Prop}(hSt:∀ g w,Stop g w→Stop' g w):∀ {n:Nat} {g:Goroutine} {w:World},Goes P main (RK K) (DS Still B) Stop n g w→Goes P main (RK K') (DS Still' B') Stop' n g w
 | 0,_,_,h=>fun w₁ hw=>hSt _ _ (h w₁ (hK _ hw))
 | n+1,g,w,h=>by
  rcases h with h|⟨h1,h2⟩
  ·exact .inl fun w₁ hw=>hSt _ _ (h w₁ (hK _ hw))
  ·refine .inr ⟨h1,fun w₁ hw=>?_⟩
   have:=h2 w₁ (hK _ hw)
   revert this
   cases stepG P main g w₁ with
   | go g' w' es=>exact fun ⟨⟨a,b⟩,c⟩=>⟨⟨a,fun e he=>evC_more hS hB (b e he)⟩,goes_more hK hS hB hSt c⟩
   | _=>exact id
theorem sits_more (hK:∀ w,K' w→K w)(hS:∀ l,Still l→Still' l)(hB:B≤B'){main:Bool}{s:Seat}{n:Nat}{g:Goroutine}(h:Sits P main K Still B s n g):Sits P main K' Still' B' s n g:=by
 rcases h with ⟨k,w,h1,h2⟩|⟨h1,g₀,g₂,h2,h3⟩
 ·exact .inl ⟨k,w,h1,goes_more hK hS hB (fun g _ ⟨g₂,h⟩=>⟨g₂,atIn_more hK hS hB h⟩) h2⟩
 ·exact .inr ⟨h1,g₀,g₂,h2,atIn_more hK hS hB h3⟩
theorem idle_more (hK:∀ w,K' w→K w)(hS:∀ l,Still l→Still' l)(hB:B≤B'){T:Trace}{i n:Nat}{g:Goroutine}{o:Option Seat}(h:Idle P K Still B T i n g o):Idle P K' Still' B' T i n g o:=by
 cases o with
 | none=>exact h
 | some s=>exact sits_more hK hS hB h
theorem ring_grow {T:Trace}{gs:Array Goroutine}{w:World}{q:Nat→Nat}(C:Ring P K Still B Mem Inb h T gs w q)(hK:∀ w,K' w→K w)(hw:K' w)(hS:∀ l,Still l→Still' l)(hnew:∀ l,Still' l→Still l∨∃ a:Addr,l=.cell a∧B≤a.block)(hB:B≤B'):Ring P K' Still' B' Mem Inb h T gs w q:=by
 have hp:PastG Still' Mem (fun g=>g≠h∧(Inb g).isSome) B' (Knows T h) T:=by
  have p:=C.past
  refine ⟨p.clean,fun i a ha hm=>(p.known i a ha hm).imp id fun ⟨x,y,z⟩=>⟨x,hS _ y,z⟩,fun i a ha hwr hs g hg=>?_,p.hears,fun op hop=>MemAct.low_mono hB (p.seen op hop)⟩
  rcases hnew _ hs with hs|⟨b,hb,hlt⟩
  ·exact p.wrote i a ha hwr hs g hg
  ·
   obtain ⟨x,hx,hxa⟩:=touch_of ha
   have hl:=p.seen x (Array.mem_of_getElem? hx)
   exfalso
   cases hact:x.act with
   | access e =>
    rw [hact] at hl hxa
    simp only [MemAct.touch?,Option.some.injEq] at hxa
    subst hxa
    simp only [MemAct.low] at hl
    simp only at hb
    rw [hb] at hl
    have:b.block<B:=hl
    omega
   | mark m =>
    rw [hact] at hl hxa
    cases m<;>simp only [MemAct.touch?,Option.some.injEq,reduceCtorEq] at hxa
    all_goals
     subst hxa
     simp only [Loc.cell.injEq] at hb
     subst hb
     have:_<B:=hl
     omega
   | _=>rw [hact] at hxa;simp [MemAct.touch?] at hxa
 exact ⟨fun i g hi hg=>idle_more hK hS hB (C.idle i g hi hg),C.chans,C.wf,C.live,C.inj,C.above,fun i s e=>⟨(C.mem i s e).1,fun c hc=>Nat.lt_of_lt_of_le ((C.mem i s e).2 c hc) hB⟩,C.nomem,C.lo,hp,hw⟩
def Within (sft:Nat→Nat)(Still:Loc→Prop):Prop:=∀ l,Still l→∃ a:Addr,l=.cell a∧a.off<sft a.block
theorem dh_of_dl {T:Trace}{gs:Array Goroutine}{w w':World}{q:Nat→Nat}{es:Array Event}(C:Ring P K Still B Mem Inb h T gs w q)(hKD:∀ w w' es,DL st sft w w' es→K w→K w')(hSt:st=true→Within sft Still)(hB:w'.heap.size≤B)(hd:DL st sft w w' es):DH K Still B Inb w w' es:=by
 refine ⟨hKD w w' es hd,fun i s c hi hc=>?_,fun e he=>?_⟩
 ·obtain ⟨cap,k,hk⟩:=C.chans i s c (fun z=>z) hi hc
  obtain ⟨o',h1,h2⟩:=hd.1.same c _ hk
  rw [h1,hk]
  exact congrArg some h2
 ·have ho:=hd.2.1 e he
  obtain ⟨loc,wr,sy⟩:=e
  unfold Off at ho
  cases loc with
  | cell a =>
   dsimp only at ho
   refine ⟨fun x hx hs=>?_,by simp,by simp,Nat.lt_of_lt_of_le ho.1 hB⟩
   have hx':x=⟨.cell a,wr,if sy then .atomic else .plain⟩:=by
    have:MemAct.ofEvent ⟨.cell a,wr,sy⟩=.access ⟨.cell a,wr,sy⟩:=by cases wr<;>cases sy<;>rfl
    rw [this] at hx
    exact (Option.some.inj hx).symm
   subst hx'
   cases wr with
   | false=>rfl
   | true =>
    obtain ⟨h1,h2⟩:=ho.2 rfl
    obtain ⟨b,hb,hlt⟩:=hSt h2 _ hs
    obtain rfl:a=b:=Loc.cell.inj hb
    omega
  | obj r =>
   dsimp only at ho
   obtain ⟨h1,rfl⟩:=ho
   refine ⟨fun x hx hs=>?_,by simp,by simp,Nat.lt_of_lt_of_le h1 hB⟩
   have hx':x=⟨.obj r,false,if sy then .atomic else .plain⟩:=by
    have:MemAct.ofEvent ⟨.obj r,false,sy⟩=.access ⟨.obj r,false,sy⟩:=by cases sy<;>rfl
    rw [this] at hx
    exact (Option.some.inj hx).symm
   subst hx'
   rfl
  | output=>exact ho.elim
  | goroutines=>exact ho.elim
  | mark m =>
   dsimp only at ho
   rcases ho with rfl|⟨f,rfl⟩
   ·exact ⟨fun x hx=>(by cases hx),by simp,by simp,trivial⟩
   ·exact ⟨fun x hx=>(by cases hx),by simp,by simp,trivial⟩
def Calm (w w':World):Prop:=w'.os=w.os∧w'.output=w.output∧w'.tape=w.tape
theorem Calm.trans {a b c:World}(h:Calm a b)(k:Calm b c):Calm a c:=⟨k.1.trans h.1,k.2.1.trans h.2.1,k.2.2.trans h.2.2⟩
theorem DL.calm {w w':World}{es:Array Event}(h:DL st sft w w' es):Calm w w':=⟨congrArg (fun x=>x.2.1) h.2.2,congrArg (fun x=>x.2.2) h.2.2,congrArg (fun x=>x.1) h.2.2⟩
theorem hold_must (hKat:∀ w d,K w→K (w.at d))(hKD:∀ w w' es,DL st sft w w' es→K w→K w')(hSt:st=true→Within sft Still){Stop:Goroutine→World→Prop}{a:Goroutine}{w:World}(hG:Must P (h == 0) (DL st sft) Stop a w) :
  ∀ {gs:Array Goroutine} {T:Trace} {q:Nat→Nat} {sl:Option (Nat × Nat)},gs[h]?=some a→Ring P K Still w.heap.size Mem Inb h T gs w q →
  ∃ (N:Nat) (gs':Array Goroutine) (a':Goroutine) (w':World) (sl':Option (Nat × Nat)) (T':Trace) (q':Nat→Nat),
   runNT P N (crowd gs w sl) T=(.next (crowd gs' w' sl'),T')∧gs'.size=gs.size∧gs'[h]?=some a'∧Stop a' w'∧Calm w w'∧Ring P K Still w'.heap.size Mem Inb h T' gs' w' q':=by
 induction hG with
 | stop hs=>intro gs T q sl ha C;exact ⟨0,gs,_,_,sl,T,q,rfl,rfl,ha,hs,⟨rfl,rfl,rfl⟩,C⟩
 | @step g w g' w' es hrun hst hD _ ih =>
  intro gs T q sl ha C
  obtain ⟨N,gs1,d,d',sl1,sl2,T1,q1,hr,hstT,hsz,ha1,C1⟩:=picked (sl:=sl) hKat ha hrun C
  have hle:w.heap.size≤(w' d').heap.size:=(hD d').1.size
  have C2:Ring P K Still (w' d').heap.size Mem Inb h T1 gs1 (w.at d') q1:=C1.mono hle (fun i g hi hg=>idle_more (fun _ h=>h) (fun _ h=>h) hle (C1.idle i g hi hg))
  obtain ⟨C3,ha3⟩:=C2.own (a':=g' d') ha1 (dh_of_dl C2 hKD hSt (Nat.le_refl _) (hD d'))
  have hrt:=runT_crowd_go (sl:=sl2) ha1 (hst d')
  obtain ⟨N2,gs',a',w2,sl',T',q',hr2,hsz2,ha',hS,hcm,C'⟩:=ih d' (sl:=sl2) ha3 C3
  exact ⟨N+1+N2,gs',a',w2,sl',T',q',runNT_then (runNT_succ_of hr (hstT.trans hrt)) hr2,by rw [hsz2];simpa using hsz,ha',hS,⟨hcm.1.trans (DL.calm (hD d')).1,hcm.2.1.trans (DL.calm (hD d')).2.1,hcm.2.2.trans (DL.calm (hD d')).2.2⟩,C'⟩
end Go.Proofs.YtcgabodkegcpgaaDoor.Br
