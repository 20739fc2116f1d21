/- The bridge: a lone contract in company (must_calls); a walked piece of code in company (must_wp). No statement of the program is proved here. -/
import Derived.Test.YtcgabodkegcpgaaDoorStq
import Derived.Conc.Token
import Derived.Conc.TokenWalk
namespace Go.Proofs.YtcgabodkegcpgaaDoor.Br
set_option maxHeartbeats 20000000
variable {P:Program} {S:FuncId→Bool} {meths:List String} {st:Bool} {sft:Nat→Nat}
set_option linter.unusedSimpArgs false
open Go.Conc (G)
def Dry {α:Type}(P:Program):Sem α→Prop
 | .pure _=>True
 | .load _ _ k=>∀ v,Dry P (k v)
 | .store _ _ _ k=>Dry P k
 | .new _ k=>∀ r,Dry P (k r)
 | .shape _ k=>∀ s,Dry P (k s)
 | .freeze _ _ k=>Dry P k
 | .frozen _ k=>∀ b,Dry P (k b)
 | .getObj _ k=>∀ o,Dry P (k o)
 | .setObj _ _ k=>Dry P k
 | .choose _ _=>False
 | .sys _ _=>False
 | .program k=>Dry P (k P)
 | .mark _ k=>Dry P k
 | .halt _=>True
theorem dry_bnd {α β:Type}{e:Sem α}{f:α→Sem β}:Dry P e→(∀ a,Dry P (f a))→Dry P (e >>= f):=by
 intro h hf
 show Dry P (e.bind f)
 induction e with
 | pure a=>exact hf a
 | load m a k ih=>exact fun v=>ih v (h v)
 | store m a v k ih=>exact ih h
 | new o k ih=>exact fun r=>ih r (h r)
 | shape r k ih=>exact fun s=>ih s (h s)
 | freeze a n k ih=>exact ih h
 | frozen a k ih=>exact fun b=>ih b (h b)
 | getObj r k ih=>exact fun o=>ih o (h o)
 | setObj r o k ih=>exact ih h
 | choose q k ih=>exact h.elim
 | sys c k ih=>exact h.elim
 | program k ih=>exact ih P h
 | mark m k ih=>exact ih h
 | halt x=>trivial
theorem dry_drawn {α:Type}(p:Program)(e:Sem α)(W:Prop)(Φ:α→Prop):∀ (w:World) (es:Array Event),Tame p W Φ e→Dry p e→Clear w→(e.runT p w es).1.world.drawn=w.drawn:=by
  induction e with
  | pure a=>intro w es _ _ _;rfl
  | load m a k ih =>
    intro w es h hd hc
    simp only [Sem.runT]
    split
    · exact ih _ _ _ (h _) (hd _) hc
    · split
      · exact ih _ _ _ (h _) (hd _) hc
      · rfl
  | store m a x k ih =>
    intro w es h hd hc
    cases x<;>simp only [Sem.runT]<;>first
      | rfl
      | (split
         · split
           · rfl
           · exact ih (w.setCell _ _) _ h.2 hd hc
         · split
           · rename_i w' t hs
             rw [← farStore_ok hs]
             exact ih w' _ h.2 hd hc
           · rfl)
  | new o k ih=>intro w es h hd hc;simp only [Sem.runT];exact ih _ { w with heap:=w.heap.push o } _ (h.2 _) (hd _) hc
  | shape r k ih=>intro w es h hd hc;simp only [Sem.runT];exact ih _ _ _ (h _) (hd _) hc
  | freeze a n k ih=>intro w es h;exact h.elim
  | frozen a k ih=>intro w es h hd hc;simp only [Sem.runT];exact ih _ _ _ (t_of_doomed (h _)) (hd _) hc
  | getObj r k ih =>
    intro w es h hd hc
    simp only [Sem.runT]
    split
    · rfl
    · exact ih _ _ _ (h.1 _) (hd _) hc
    · rfl
  | setObj r o k ih=>intro w es h;exact h.elim
  | choose q k ih=>intro w es h hd;exact hd.elim
  | sys c k ih=>intro w es h;exact h.elim
  | program k ih=>intro w es h hd hc;simp only [Sem.runT];exact ih _ _ _ h hd hc
  | mark m k ih=>intro w es h hd hc;simp only [Sem.runT];exact ih _ _ h.2.2 hd hc
  | halt x=>intro w es _ _ _;rfl
theorem dry_listMapM {α β:Type}(f:α→Sem β)(h:∀ a,Dry P (f a)):∀ l:List α,Dry P (l.mapM f)
 | []=>by simp only [List.mapM_nil];exact trivial
 | a::l=>by
  simp only [List.mapM_cons]
  exact dry_bnd (h a) fun _=>dry_bnd (dry_listMapM f h l) fun _=>trivial
theorem dry_mapM {α β:Type}(f:α→Sem β)(h:∀ a,Dry P (f a))(xs:Array α):Dry P (xs.mapM f):=by
 rw [Array.mapM_eq_mapM_toList]
 exact dry_bnd (dry_listMapM f h _) fun _=>trivial
theorem dry_typeInfo (t:TypeId):Dry P (typeInfo t):=by
 show Dry P ((match P.info? t with|some d=>pure d|none=>stuck "no such type"):Sem TypeInfo)
 split<;>exact trivial
theorem dry_underlying (t:TypeId):Dry P (underlying t):=by
 show Dry P ((match P.underlying t with|some d=>pure d|none=>stuck "no such type"):Sem TypeDesc)
 split<;>exact trivial
theorem dry_loadCellsFrom (a:Addr)(n:Nat):∀ (i:Nat) (acc:Array Value),Dry P (loadCellsFrom a i n acc):=by
 induction n with
 | zero=>exact fun _ _=>trivial
 | succ n ih=>exact fun i acc v=>ih _ _
theorem dry_loadVar (t:TypeId)(a:Addr):Dry P (loadVar t a):=by
 unfold loadVar
 refine dry_bnd ?_ fun b=>?_
 ·unfold isAgg
  refine dry_bnd (dry_underlying _) fun u=>?_
  split<;>exact trivial
 ·split
  ·exact dry_bnd (dry_bnd (dry_typeInfo _) fun _=>trivial) fun n=>dry_bnd (dry_loadCellsFrom _ _ _ _) fun _=>trivial
  ·exact fun _=>trivial
theorem dry_results (fn:Func)(tmps:Array Value):Dry P (results fn tmps):=by
 unfold results
 refine dry_bnd (dry_mapM _ (fun r=>?_) _) fun _=>trivial
 split
 ·exact trivial
 ·refine dry_bnd ?_ fun _=>dry_loadVar _ _
  unfold asAddr
  split<;>exact trivial
structure Fit (sft:Nat→Nat) (w:World):Prop where
 soft:∀ i:Nat,sft i≠0→∃ c t,w.heap[i]?=some (.cells c t (0,0))
 clear:Clear w
theorem Lk.fit {v w:World}(h:Lk sft v w):Fit sft w:=⟨h.soft,h.sight⟩
theorem step_returning {fr:Frame}(hL:OkL P fr)(hm:fr.mode=.returning){fn:Func}(hf:P.funcs[fr.fn]?=some fn)(m:Bool)(c:Frame)(cs:List Frame)(u:World):stepG P m (G fr (c::cs)) u =
  GStep.after (seen P fr.fn ((results fn fr.tmps).runT P u #[]).2) (match ((results fn fr.tmps).runT P u #[]).1 with
   | .ok v w=>.go (G (c.finish v) cs) w
   | .halt (.stuck s) w=>.ended (.stuck s (Frame.pos P fr)) w
   | .halt _ w=>.ended (.stuck "return: the result variables cannot be read" (Frame.pos P fr)) w):=by
 obtain ⟨f,tmps,todo,defers,mode,kind,round⟩:=fr
 obtain ⟨hkind,hround,hdefers,_⟩:=hL
 dsimp only at hkind hround hdefers hm hf
 subst hkind hround hdefers hm
 simp only [stepG,G,unwind,hf,doReturn]
 rcases (Sem.runT P (results fn tmps) u #[]) with ⟨r,es⟩
 cases r with
 | ok a b=>rfl
 | halt h b=>cases h<;>rfl
theorem must_calls (R:Rules P S meths st){f:FuncId}(hf:S f=true){args:Array Value}{w0:World}(hfit:Fit sft w0)(main:Bool){Q:Value→World→Prop}
  (h:∀ v,Lk sft v w0→Calls P f args v (fun e v'=>match e with|.returned x=>Q x v'|_=>False))(c:Frame)(cs:List Frame) :
  Must P main (DL st sft) (fun g w=>∃ x v,g=G (c.finish x) cs∧Lk sft v w∧Q x v) (G (Frame.enter P f args .normal) (c::cs)) w0:=by
 have h0:OkF P S meths st (Frame.enter P f args .normal):=.enter R hf args
 have key:=must_of_lone (sft:=sft) (k:=[]) (k0:=[]) (base:=c::cs) R h0 (fun _=>rfl) (fun _=>rfl) (fun e=>absurd rfl e) hfit.soft hfit.clear main (F:=fun fr v=>∃ x,fr.leaving P v (.returned x)∧Q x v) (fun v hv=>by
  obtain ⟨e,w',fr,hR,hc,hfn,hlv⟩:=h v hv [floor]
  cases e with
  | returned x =>
   obtain ⟨n,hn⟩:=hc
   exact ⟨n,fr,w',by rw [app_nil];exact hn,x,hlv,hR⟩
  | panicked ch=>exact hR.elim
  | outgrown=>exact hR.elim)
 rw [app_nil] at key
 refine key.then fun g w ⟨fr,v,hg,hl,⟨x,hlv,hQ⟩,hO⟩=>?_
 rw [app_nil] at hg hlv
 subst hg
 have hmode:fr.mode≠.run:=by rw [hlv.1];simp
 obtain ⟨hm,hd,hk,fn,hf,hr⟩:=hlv
 have hpop:∀ d,∃ w' es,stepG P main (G fr (c::cs)) (w.at d)=.go (G (c.finish x) cs) w' es∧DL st sft (w.at d) w' es∧Lk sft v w':=by
  intro d
  have hw0:(stepG P main (G fr (c::cs)) (w.at d)).wd≤(w.at d).drawn+0:=by
   have e:stepG P main (G fr (c::cs)) (w.at d)=_:=step_returning (P:=P) hO.leaves hm hf main c cs (w.at d)
   rw [e,wd_after]
   have h1:=dry_drawn P (results fn fr.tmps) (st=true) _ (w.at d) #[] (t_results fn fr.tmps) (dry_results fn fr.tmps) hl.sight
   revert h1
   generalize (results fn fr.tmps).runT P (w.at d) #[]=r
   intro h1
   rcases r with ⟨r,es⟩
   cases r with
   | ok a b=>exact Nat.le_of_eq h1
   | halt a b=>cases a<;>exact Nat.le_of_eq h1
  have hv:∃ es,stepG P true (G fr (c::cs)) v=.go (G (c.finish x) cs) v es:=by
   have e:=step_returning (P:=P) hO.leaves hm hf true c cs v
   have h2:((results fn fr.tmps).runT P v #[]).1=.ok x v:=by rw [Sem.runT_fst];exact hr
   rw [e,h2]
   exact ⟨_,rfl⟩
  obtain ⟨es0,hv⟩:=hv
  rcases pop_sim (main':=true) (c':=c) (cs':=cs) hO.leaves hmode (hl.at d) (N:=0) (fun i q hi=>by omega) hw0 with ⟨o,v',es,h⟩|⟨v',w',es,hb,⟨x',h1,h2⟩|⟨ch,h1,h2⟩⟩
  ·rw [hv] at h;cases h
  ·rw [hv] at h1
   obtain ⟨e1,e2,_⟩:=GStep.go.inj h1
   obtain ⟨n,hdr⟩:=hb.drew
   refine ⟨w',es,?_,⟨⟨hb.kept.same,hb.kept.size,hb.kept.new⟩,hb.off,hdr.all⟩,by rw [e2];exact hb.lk⟩
   have e3:c.finish x=c.finish x':=congrArg Goroutine.frame e1
   rw [h2,e3]
  ·rw [hv] at h1
   obtain ⟨e1,e2,_⟩:=GStep.go.inj h1
   obtain ⟨n,hdr⟩:=hb.drew
   refine ⟨w',es,?_,⟨⟨hb.kept.same,hb.kept.size,hb.kept.new⟩,hb.off,hdr.all⟩,by rw [e2];exact hb.lk⟩
   have e3:c.finish x=c.raise ch:=congrArg Goroutine.frame e1
   rw [h2,e3]
 exact .step (fun _=>G (c.finish x) cs) (fun d=>(hpop d).choose) (fun d=>(hpop d).choose_spec.choose) rfl (fun d=>(hpop d).choose_spec.choose_spec.1) (fun d=>(hpop d).choose_spec.choose_spec.2.1)
  (fun d=>.stop ⟨x,v,rfl,(hpop d).choose_spec.choose_spec.2.2,hQ⟩)
theorem must_wp (R:Rules P S meths st){c:Code}(hc:okCode P S meths st c=true){a:Act}(ha:a.defers=[]){b:Frame}(hb:b.kind=.normal)(hbf:∃ fn,P.funcs[b.fn]?=some fn){w0:World}(hfit:Fit sft w0)(main:Bool){Q:Exit→Act→World→Prop}
  (hQ:∀ e a w,Q e a w→e=.normal∨e=.ret)(h:∀ v,Lk sft v w0→c.wp P Q a v)(k:List Item)(cs:List Frame) :
  Must P main (DL st sft) (fun g w=>∃ e a' v,Q e a' v∧Lk sft v w∧(e=.normal∧g=G (b.at a' k) cs∨e=.ret∧∃ todo,g=G { b.at a' todo with mode:=.returning } cs)) (G (b.at a (.code c::k)) cs) w0:=by
 have h0:OkF P S meths st (b.at a [.code c]):=⟨hb,rfl,ha,hbf,fun x hx=>by
  rcases List.mem_cons.1 hx with rfl|hx
  ·exact hc
  ·cases hx⟩
 have key:=must_of_lone (sft:=sft) (k:=k) (k0:=[.code (.refuse "")]) (base:=cs) R h0 (fun _=>rfl) (fun e=>by cases e) (fun _=>rfl) hfit.soft hfit.clear main
  (F:=fun fr v=>∃ e a',Q e a' v∧(e=.normal∧fr=b.at a' [.code (.refuse "")]∨e=.ret∧∃ todo,fr={ b.at a' todo with mode:=.returning })) (fun v hv=>by
  obtain ⟨e,a',w',hq,har⟩:=h v hv b [.code (.refuse "")] [floor]
  rcases hQ e a' w' hq with rfl|rfl
  ·obtain ⟨n,hn⟩:=har
   exact ⟨n,b.at a' [.code (.refuse "")],w',hn,_,a',hq,.inl ⟨rfl,rfl⟩⟩
  ·obtain ⟨todo,n,hn⟩:=har
   exact ⟨n,_,w',hn,_,a',hq,.inr ⟨rfl,todo,rfl⟩⟩)
 refine key.mono (fun _ _ _ h=>h) fun g w ⟨fr,v,hg,hl,⟨e,a',hq,he⟩,hO⟩=>⟨e,a',v,hq,hl,?_⟩
 rcases he with ⟨rfl,he⟩|⟨rfl,todo,he⟩
 ·obtain rfl:fr=b.at a' []:=app_cancel (k:=[.code (.refuse "")]) he
  exact .inl ⟨rfl,hg⟩
 ·refine .inr ⟨rfl,fr.todo ++ k,?_⟩
  rw [hg]
  cases fr
  simp only [Frame.app,Frame.at,Frame.mk.injEq] at he ⊢
  obtain ⟨h1,h2,h3,h4,h5,h6,h7⟩:=he
  subst h1 h2 h4 h5 h6 h7
  rfl
end Go.Proofs.YtcgabodkegcpgaaDoor.Br
namespace Go.Proofs.YtcgabodkegcpgaaDoor.Br
open Go.Conc
set_option maxHeartbeats 20000000
variable {P:Program} {st:Bool} {sft:Nat→Nat} {K K':World→Prop} {Still Still':Loc→Prop} {B B':Nat} {Mem:Nat→Prop} {Inb:Nat→Option Seat} {h:Nat}
set_option linter.unusedSimpArgs false
theorem evC_more (hS:∀ l,Still l→Still' l)(hB:B≤B'){e:Event}(h:EvC Still B e):EvC Still' B' e:=by
 obtain ⟨a,h1,h2,h3⟩:=h
 exact ⟨a,h1,hS _ h2,Nat.lt_of_lt_of_le h3 hB⟩
theorem atIn_more (hK:∀ w,K' w→K w)(hS:∀ l,Still l→Still' l)(hB:B≤B'){main:Bool}{s:Seat}{g g₂:Goroutine}(h:AtIn P main K Still B s g g₂):AtIn P main K' Still' B' s g g₂:=by
 obtain ⟨h1,h2,h3,h4,h5,es,h6,h7⟩:=h
 exact ⟨h1,h2,h3,h4,h5,es,fun e he=>evC_more hS hB (h6 e he),fun w hw=>h7 w (hK w hw)⟩
theorem goes_more (hK:∀ w,K' w→K w)(hS:∀ l,Still l→Still' l)(hB:B≤B'){main:Bool}{Stop Stop':Goroutine→World→Prop}(hSt:∀ g w,Stop g w→Stop' g w):∀ {n:Nat} {g:Goroutine} {w:World},Goes P main (RK K) (DS Still B) Stop n g w→Goes P main (RK K') (DS Still' B') Stop' n g w
 | 0,_,_,h=>fun w₁ hw=>hSt _ _ (h w₁ (hK _ hw))
 | n+1,g,w,h=>by
  rcases h with h|⟨h1,h2⟩
  ·exact .inl fun w₁ hw=>hSt _ _ (h w₁ (hK _ hw))
  ·refine .inr ⟨h1,fun w₁ hw=>?_⟩
   have:=h2 w₁ (hK _ hw)
   revert this
   cases stepG P main g w₁ with
   | go g' w' es=>exact fun ⟨⟨a,b⟩,c⟩=>⟨⟨a,fun e he=>evC_more hS hB (b e he)⟩,goes_more hK hS hB hSt c⟩
   | _=>exact id
theorem sits_more (hK:∀ w,K' w→K w)(hS:∀ l,Still l→Still' l)(hB:B≤B'){main:Bool}{s:Seat}{n:Nat}{g:Goroutine}(h:Sits P main K Still B s n g):Sits P main K' Still' B' s n g:=by
 rcases h with ⟨k,w,h1,h2⟩|⟨h1,g₀,g₂,h2,h3⟩
 ·exact .inl ⟨k,w,h1,goes_more hK hS hB (fun g _ ⟨g₂,h⟩=>⟨g₂,atIn_more hK hS hB h⟩) h2⟩
 ·exact .inr ⟨h1,g₀,g₂,h2,atIn_more hK hS hB h3⟩
theorem idle_more (hK:∀ w,K' w→K w)(hS:∀ l,Still l→Still' l)(hB:B≤B'){T:Trace}{i n:Nat}{g:Goroutine}{o:Option Seat}(h:Idle P K Still B T i n g o):Idle P K' Still' B' T i n g o:=by
 cases o with
 | none=>exact h
 | some s=>exact sits_more hK hS hB h
theorem ring_grow {T:Trace}{gs:Array Goroutine}{w:World}{q:Nat→Nat}(C:Ring P K Still B Mem Inb h T gs w q)(hK:∀ w,K' w→K w)(hw:K' w)(hS:∀ l,Still l→Still' l)(hnew:∀ l,Still' l→Still l∨∃ a:Addr,l=.cell a∧B≤a.block)(hB:B≤B'):Ring P K' Still' B' Mem Inb h T gs w q:=by
 have hp:PastG Still' Mem (fun g=>g≠h∧(Inb g).isSome) B' (Knows T h) T:=by
  have p:=C.past
  refine ⟨p.clean,fun i a ha hm=>(p.known i a ha hm).imp id fun ⟨x,y,z⟩=>⟨x,hS _ y,z⟩,fun i a ha hwr hs g hg=>?_,p.hears,fun op hop=>MemAct.low_mono hB (p.seen op hop)⟩
  rcases hnew _ hs with hs|⟨b,hb,hlt⟩
  ·exact p.wrote i a ha hwr hs g hg
  ·
   obtain ⟨x,hx,hxa⟩:=touch_of ha
   have hl:=p.seen x (Array.mem_of_getElem? hx)
   exfalso
   cases hact:x.act with
   | access e =>
    rw [hact] at hl hxa
    simp only [MemAct.touch?,Option.some.injEq] at hxa
    subst hxa
    simp only [MemAct.low] at hl
    simp only at hb
    rw [hb] at hl
    have:b.block<B:=hl
    omega
   | mark m =>
    rw [hact] at hl hxa
    cases m<;>simp only [MemAct.touch?,Option.some.injEq,reduceCtorEq] at hxa
    all_goals
     subst hxa
     simp only [Loc.cell.injEq] at hb
     subst hb
     have:_<B:=hl
     omega
   | _=>rw [hact] at hxa;simp [MemAct.touch?] at hxa
 exact ⟨fun i g hi hg=>idle_more hK hS hB (C.idle i g hi hg),C.chans,C.wf,C.live,C.inj,C.above,fun i s e=>⟨(C.mem i s e).1,fun c hc=>Nat.lt_of_lt_of_le ((C.mem i s e).2 c hc) hB⟩,C.nomem,C.lo,hp,hw⟩
def Within (sft:Nat→Nat)(Still:Loc→Prop):Prop:=∀ l,Still l→∃ a:Addr,l=.cell a∧a.off<sft a.block
theorem dh_of_dl {T:Trace}{gs:Array Goroutine}{w w':World}{q:Nat→Nat}{es:Array Event}(C:Ring P K Still B Mem Inb h T gs w q)(hKD:∀ w w' es,DL st sft w w' es→K w→K w')(hSt:st=true→Within sft Still)(hB:w'.heap.size≤B)(hd:DL st sft w w' es):DH K Still B Inb w w' es:=by
 refine ⟨hKD w w' es hd,fun i s c hi hc=>?_,fun e he=>?_⟩
 ·obtain ⟨cap,k,hk⟩:=C.chans i s c (fun z=>z) hi hc
  obtain ⟨o',h1,h2⟩:=hd.1.same c _ hk
  rw [h1,hk]
  exact congrArg some h2
 ·have ho:=hd.2.1 e he
  obtain ⟨loc,wr,sy⟩:=e
  unfold Off at ho
  cases loc with
  | cell a =>
   dsimp only at ho
   refine ⟨fun x hx hs=>?_,by simp,by simp,Nat.lt_of_lt_of_le ho.1 hB⟩
   have hx':x=⟨.cell a,wr,if sy then .atomic else .plain⟩:=by
    have:MemAct.ofEvent ⟨.cell a,wr,sy⟩=.access ⟨.cell a,wr,sy⟩:=by cases wr<;>cases sy<;>rfl
    rw [this] at hx
    exact (Option.some.inj hx).symm
   subst hx'
   cases wr with
   | false=>rfl
   | true =>
    obtain ⟨h1,h2⟩:=ho.2 rfl
    obtain ⟨b,hb,hlt⟩:=hSt h2 _ hs
    obtain rfl:a=b:=Loc.cell.inj hb
    omega
  | obj r =>
   dsimp only at ho
   obtain ⟨h1,rfl⟩:=ho
   refine ⟨fun x hx hs=>?_,by simp,by simp,Nat.lt_of_lt_of_le h1 hB⟩
   have hx':x=⟨.obj r,false,if sy then .atomic else .plain⟩:=by
    have:MemAct.ofEvent ⟨.obj r,false,sy⟩=.access ⟨.obj r,false,sy⟩:=by cases sy<;>rfl
    rw [this] at hx
    exact (Option.some.inj hx).symm
   subst hx'
   rfl
  | output=>exact ho.elim
  | goroutines=>exact ho.elim
  | mark m =>
   dsimp only at ho
   rcases ho with rfl|⟨f,rfl⟩
   ·exact ⟨fun x hx=>(by cases hx),by simp,by simp,trivial⟩
   ·exact ⟨fun x hx=>(by cases hx),by simp,by simp,trivial⟩
def Calm (w w':World):Prop:=w'.os=w.os∧w'.output=w.output∧w'.tape=w.tape
theorem Calm.trans {a b c:World}(h:Calm a b)(k:Calm b c):Calm a c:=⟨k.1.trans h.1,k.2.1.trans h.2.1,k.2.2.trans h.2.2⟩
theorem DL.calm {w w':World}{es:Array Event}(h:DL st sft w w' es):Calm w w':=⟨congrArg (fun x=>x.2.1) h.2.2,congrArg (fun x=>x.2.2) h.2.2,congrArg (fun x=>x.1) h.2.2⟩
theorem hold_must (hKat:∀ w d,K w→K (w.at d))(hKD:∀ w w' es,DL st sft w w' es→K w→K w')(hSt:st=true→Within sft Still){Stop:Goroutine→World→Prop}{a:Goroutine}{w:World}(hG:Must P (h == 0) (DL st sft) Stop a w) :
  ∀ {gs:Array Goroutine} {T:Trace} {q:Nat→Nat} {sl:Option (Nat × Nat)},gs[h]?=some a→Ring P K Still w.heap.size Mem Inb h T gs w q →
  ∃ (N:Nat) (gs':Array Goroutine) (a':Goroutine) (w':World) (sl':Option (Nat × Nat)) (T':Trace) (q':Nat→Nat),
   runNT P N (crowd gs w sl) T=(.next (crowd gs' w' sl'),T')∧gs'.size=gs.size∧gs'[h]?=some a'∧Stop a' w'∧Calm w w'∧Ring P K Still w'.heap.size Mem Inb h T' gs' w' q':=by
 induction hG with
 | stop hs=>intro gs T q sl ha C;exact ⟨0,gs,_,_,sl,T,q,rfl,rfl,ha,hs,⟨rfl,rfl,rfl⟩,C⟩
 | @step g w g' w' es hrun hst hD _ ih =>
  intro gs T q sl ha C
  obtain ⟨N,gs1,d,d',sl1,sl2,T1,q1,hr,hstT,hsz,ha1,C1⟩:=picked (sl:=sl) hKat ha hrun C
  have hle:w.heap.size≤(w' d').heap.size:=(hD d').1.size
  have C2:Ring P K Still (w' d').heap.size Mem Inb h T1 gs1 (w.at d') q1:=C1.mono hle (fun i g hi hg=>idle_more (fun _ h=>h) (fun _ h=>h) hle (C1.idle i g hi hg))
  obtain ⟨C3,ha3⟩:=C2.own (a':=g' d') ha1 (dh_of_dl C2 hKD hSt (Nat.le_refl _) (hD d'))
  have hrt:=runT_crowd_go (sl:=sl2) ha1 (hst d')
  obtain ⟨N2,gs',a',w2,sl',T',q',hr2,hsz2,ha',hS,hcm,C'⟩:=ih d' (sl:=sl2) ha3 C3
  exact ⟨N+1+N2,gs',a',w2,sl',T',q',runNT_then (runNT_succ_of hr (hstT.trans hrt)) hr2,by rw [hsz2];simpa using hsz,ha',hS,⟨hcm.1.trans (DL.calm (hD d')).1,hcm.2.1.trans (DL.calm (hD d')).2.1,hcm.2.2.trans (DL.calm (hD d')).2.2⟩,C'⟩
end Go.Proofs.YtcgabodkegcpgaaDoor.Br
namespace Go.Proofs.YtcgabodkegcpgaaDoor.Br
open Go.Conc
open Go.ConcN (upd upd_same upd_ne)
set_option linter.unusedSimpArgs false
set_option maxHeartbeats 20000000
structure OpD where
 gid:Nat
 bo:Nat
 tu:Nat
 to:Nat
 en:Nat
def KO (l:List OpD)(w:World):Prop:=∀ o∈l,∃ c t,w.heap[o.bo]?=some (.cells c t (0,0))∧c[0]?=some (.chan (some o.tu))∧c[1]?=some (.chan (some o.to))∧c[2]?=some (.chan (some o.en))
def SO (l:List OpD)(x:Loc):Prop:=∃ o∈l,∃ i,i<3∧x=.cell ⟨o.bo,i,none⟩
open Classical in
noncomputable def sfO (l:List OpD)(b:Nat):Nat:=if ∃ o∈l,o.bo=b then 3 else 0
theorem sfO_mem {l:List OpD}{o:OpD}(h:o∈l):sfO l o.bo=3:=by unfold sfO;rw [if_pos ⟨o,h,rfl⟩]
theorem sfO_ne {l:List OpD}{b:Nat}(h:sfO l b≠0):∃ o∈l,o.bo=b:=by
 unfold sfO at h
 split at h
 ·assumption
 ·exact absurd rfl h
theorem sfO_zero {l:List OpD}{b:Nat}(h:∀ o∈l,o.bo≠b):sfO l b=0:=by
 unfold sfO
 rw [if_neg]
 rintro ⟨o,ho,e⟩
 exact h o ho e
theorem withinO (l:List OpD):Within (sfO l) (SO l):=by
 rintro x ⟨o,ho,i,hi,rfl⟩
 exact ⟨_,rfl,by rw [sfO_mem ho];exact hi⟩
theorem KO.at {l:List OpD}(w:World)(d:Nat)(h:KO l w):KO l (w.at d):=h
theorem KO.dl {st:Bool}{l:List OpD}(w w':World)(es:Array Event)(hd:DL st (sfO l) w w' es)(h:KO l w):KO l w':=by
 intro o ho
 obtain ⟨c,t,h0,h1,h2,h3⟩:=h o ho
 obtain ⟨o',e1,e2⟩:=hd.1.same _ _ h0
 obtain ⟨c',rfl,_,hj⟩:=e2
 rw [sfO_mem ho] at hj
 exact ⟨c',t,e1,by rw [hj 0 (by omega)];exact h1,by rw [hj 1 (by omega)];exact h2,by rw [hj 2 (by omega)];exact h3⟩
theorem KO.chan {l:List OpD}{w:World}{c:Nat}(hc:∀ o∈l,o.bo≠c)(cap:Nat)(buf:Array Value)(cl:Bool)(a b:Nat)(tm:Bool)(h:KO l w):KO l (w.setChan c cap buf cl a b tm):=by
 intro o ho
 obtain ⟨x,t,h0,h1⟩:=h o ho
 exact ⟨x,t,by rw [heap_setChan_ne _ _ _ _ _ _ _ (fun e=>hc o ho e.symm)];exact h0,h1⟩
theorem KO.lt {l:List OpD}{w:World}(h:KO l w){o:OpD}(ho:o∈l):o.bo<w.heap.size:=by
 obtain ⟨c,t,h0,_⟩:=h o ho
 exact (Array.getElem?_eq_some_iff.1 h0).1
variable {st:Bool} {P:Program} {Final:Machine→Trace→Prop} {l:List OpD} {Inb:Nat→Option Seat} {n h:Nat}
def Ends (P:Program)(Final:Machine→Trace→Prop)(m:Machine)(T:Trace):Prop:=∃ N m' T',runNT P N m T=(.next m',T')∧Final m' T'∧Calm m.world m'.world
theorem Ends.back {m m':Machine}{T T':Trace}{N:Nat}(h:runNT P N m T=(.next m',T'))(hc:Calm m.world m'.world)(he:Ends P Final m' T'):Ends P Final m T:=by
 obtain ⟨N',m'',T'',h1,h2,h3⟩:=he
 exact ⟨N+N',m'',T'',runNT_then h h1,h2,hc.trans h3⟩
def SP (l:List OpD)(pre:Nat→Prop)(x:Loc):Prop:=SO l x∨∃ b i,pre b∧i<3∧x=.cell ⟨b,i,none⟩
def no:Nat→Prop:=fun _=>False
theorem withinP (l:List OpD):Within (sfO l) (SP l no):=by
 rintro x (h|⟨_,_,h,_⟩)
 ·exact withinO l x h
 ·exact h.elim
def Sit (P:Program)(l:List OpD)(pre:Nat→Prop)(Inb:Nat→Option Seat)(n h:Nat)(g:Goroutine)(w:World)(m:Machine)(T:Trace):Prop :=
 ∃ gs sl q Mem,m=crowd gs w sl∧gs.size=n∧gs[h]?=some g∧Mem h∧(∀ i s c,Inb i=some s→s.has c→∀ o∈l,o.bo≠c)∧Ring P (KO l) (SP l pre) w.heap.size Mem Inb h T gs w q
def XP (P:Program)(Final:Machine→Trace→Prop)(l:List OpD)(pre:Nat→Prop)(Inb:Nat→Option Seat)(n h:Nat)(g:Goroutine)(w:World):Prop:=∀ m T,Sit P l pre Inb n h g w m T→Ends P Final m T
abbrev X (P:Program)(Final:Machine→Trace→Prop)(l:List OpD)(Inb:Nat→Option Seat)(n h:Nat)(g:Goroutine)(w:World):Prop:=XP P Final l no Inb n h g w
theorem Sit.keep {pre:Nat→Prop}{g:Goroutine}{w:World}{m:Machine}{T:Trace}(hs:Sit P l pre Inb n h g w m T):KO l w:=by
 obtain ⟨gs,sl,q,Mem,_,_,_,_,_,C⟩:=hs
 exact C.keep
theorem xp_must {pre:Nat→Prop}(hp:st=true→pre=no){g:Goroutine}{w:World}(hm:Must P (h == 0) (DL st (sfO l)) (XP P Final l pre Inb n h) g w):XP P Final l pre Inb n h g w:=by
 rintro m T ⟨gs,sl,q,Mem,rfl,hn,hg,hM,hdis,C⟩
 obtain ⟨N,gs',a',w',sl',T',q',hr,hsz,ha',hx,hcm,C'⟩:=hold_must (sl:=sl) (fun w d=>KO.at w d) (fun w w' es hd=>KO.dl w w' es hd) (fun e=>by rw [hp e];exact withinP l) hm hg C
 exact (hx _ _ ⟨gs',sl',q',Mem,rfl,hsz.trans hn,ha',hM,hdis,C'⟩).back hr hcm
theorem x_must {g:Goroutine}{w:World}(hm:Must P (h == 0) (DL st (sfO l)) (X P Final l Inb n h) g w):X P Final l Inb n h g w:=xp_must (fun _=>rfl) hm
theorem x_give {a a₂:Goroutine}{j c kk nh:Nat}{s sh:Seat}{v z z':Value}{w:World}(hjh:j≠h)(hjn:j<n)(hj:Inb j=some s)(hk:s.cases[kk]?=some (rcase c z))(hrun:a.status=.running)
  (hsend:∀ d,stepG P (h == 0) a (w.at d)=.comm a₂ #[scase c v z'] true .send (w.at d) #[])(hh:Inb h=some sh)(hsit:∀ B,(∀ o∈l,o.bo<B)→Sits P (h == 0) (KO l) (SP l no) B sh nh (Go.Conc.served a₂ undef))
  (hnext:∀ g₂ d cap k,s.home g₂→w.heap[c]?=some (.chan cap #[] false k k false)→X P Final l Inb n j (Go.Conc.served g₂ (commResult s.cases s.shape kk v true)) ((w.at d).setChan c cap #[] false (k+1) (k+1) false)):X P Final l Inb n h a w:=by
 rintro m T ⟨gs,sl,q,Mem,rfl,hn,hg,hM,hdis,C⟩
 obtain ⟨N,m',T',hr,gs',g₂,d,k,cap,sl',q',rfl,hsz,hgj,hhome,hc,C'⟩:=give (sl:=sl) (fun w d=>KO.at w d) (fun w i s c cap buf cl a b tm hi hc hK=>KO.chan (hdis i s c hi hc) cap buf cl a b tm hK) hjh (hn▸hjn) hj hk hM hg hrun hsend (fun e he=>by simp at he) C
  (Inb':=Inb) (fun _ _=>rfl) (.inl rfl) (nh:=nh) (fun T' _=>by rw [hh];exact hsit _ fun o ho=>C.keep.lt ho)
 refine (hnext g₂ d cap k hhome hc _ _ ⟨gs',sl',q',fun g=>Mem g∧(Inb g≠none∨g=j),rfl,hsz.trans hn,hgj,⟨(C.mem j s hj).1,.inr rfl⟩,hdis,?_⟩).back hr ⟨rfl,rfl,rfl⟩
 have e:((w.at d).setChan c cap #[] false (k+1) (k+1) false).heap.size=w.heap.size:=by simp [World.setChan,World.at]
 rw [e];exact C'
theorem x_shut {a a':Goroutine}{j k c kk cap nh:Nat}{z:Value}{s sh:Seat}{w:World}(hjh:j≠h)(hjn:j<n)(hj:Inb j=some s)(hk:s.cases[kk]?=some (rcase c z))(hrun:a.status=.running)(hwake:mayWake P a=true)(ha':a'.status=.running)
  (hc:w.heap[c]?=some (.chan cap #[] false k k false))(hclose:∀ d,stepG P (h == 0) a (w.at d)=.go a' ((w.at d).setChan c cap #[] true k k false) (closeEvents c))(hh:Inb h=some sh)(hsit:∀ B,(∀ o∈l,o.bo<B)→Sits P (h == 0) (KO l) (SP l no) B sh nh a')
  (hnext:∀ g₂ d,s.home g₂→X P Final l (upd Inb j none) n j (Go.Conc.served g₂ (commResult s.cases s.shape kk z false)) ((w.at d).setChan c cap #[] true k k false)):X P Final l Inb n h a w:=by
 rintro m T ⟨gs,sl,q,Mem,rfl,hn,hg,hM,hdis,C⟩
 obtain ⟨N,gs',g₂,d,sl',T',q',hr,hsz,hgj,hhome,C'⟩:=give_close (sl:=sl) (fun w d=>KO.at w d) (fun w i s c cap buf cl a b tm hi hc hK=>KO.chan (hdis i s c hi hc) cap buf cl a b tm hK) hjh (hn▸hjn) hj hk hM hg hrun hwake ha' hc hclose C
  (Inb':=upd Inb j none) (fun x _ hx=>upd_ne Inb _ hx) (.inl (upd_ne Inb _ (Ne.symm hjh))) (upd_same Inb j _) (nh:=nh) (fun T' _=>by rw [upd_ne Inb _ (Ne.symm hjh),hh];exact hsit _ fun o ho=>C.keep.lt ho)
 refine (hnext g₂ d hhome _ _ ⟨gs',sl',q',fun g=>Mem g∧(upd Inb j none g≠none∨g=j),rfl,hsz.trans hn,hgj,⟨(C.mem j s hj).1,.inr rfl⟩,fun i s' c' hi=>?_,?_⟩).back hr ⟨rfl,rfl,rfl⟩
 rotate_left
 ·have e:((w.at d).setChan c cap #[] true k k false).heap.size=w.heap.size:=by simp [World.setChan,World.at]
  rw [e];exact C'
 ·by_cases e:i=j
  ·subst e;rw [upd_same] at hi;cases hi
  ·rw [upd_ne Inb _ e] at hi;exact hdis i s' c' hi
theorem x_last {a a':Goroutine}{j k c kk cap nh:Nat}{z:Value}{s:Seat}{w:World}(hh0:0<h)(hjh:j≠h)(hjn:j<n)(hj:Inb j=some s)(hk:s.cases[kk]?=some (rcase c z))(hrun:a.status=.running)(hwake:mayWake P a=true)(ha':a'.status=.running)
  (hc:w.heap[c]?=some (.chan cap #[] false k k false))(hclose:∀ d,stepG P (h == 0) a (w.at d)=.go a' ((w.at d).setChan c cap #[] true k k false) (closeEvents c))(hquit:QuitsD P nh 0 a')
  (hnext:∀ g₂ d,s.home g₂→X P Final l (upd (upd Inb j none) h none) n j (Go.Conc.served g₂ (commResult s.cases s.shape kk z false)) ((w.at d).setChan c cap #[] true k k false)):X P Final l Inb n h a w:=by
 rintro m T ⟨gs,sl,q,Mem,rfl,hn,hg,hM,hdis,C⟩
 obtain ⟨N,gs',g₂,d,sl',T',q',hr,hsz,hgj,hhome,C'⟩:=give_close (sl:=sl) (fun w d=>KO.at w d) (fun w i s c cap buf cl a b tm hi hc hK=>KO.chan (hdis i s c hi hc) cap buf cl a b tm hK) hjh (hn▸hjn) hj hk hM hg hrun hwake ha' hc hclose C
  (Inb':=upd (upd Inb j none) h none) (fun x hx1 hx=>by rw [upd_ne _ _ hx1,upd_ne Inb _ hx]) (.inr (upd_same _ h _)) (by rw [upd_ne _ _ hjh,upd_same]) (nh:=nh) (fun T' hD=>by rw [upd_same];exact ⟨hh0,by rw [hD];exact hquit⟩)
 refine (hnext g₂ d hhome _ _ ⟨gs',sl',q',fun g=>Mem g∧(upd (upd Inb j none) h none g≠none∨g=j),rfl,hsz.trans hn,hgj,⟨(C.mem j s hj).1,.inr rfl⟩,fun i s' c' hi=>?_,?_⟩).back hr ⟨rfl,rfl,rfl⟩
 rotate_left
 ·have e:((w.at d).setChan c cap #[] true k k false).heap.size=w.heap.size:=by simp [World.setChan,World.at]
  rw [e];exact C'
 ·by_cases e1:i=h
  ·subst e1;rw [upd_same] at hi;cases hi
  ·rw [upd_ne _ _ e1] at hi
   by_cases e:i=j
   ·subst e;rw [upd_same] at hi;cases hi
   ·rw [upd_ne Inb _ e] at hi;exact hdis i s' c' hi
theorem x_reseat {g:Goroutine}{w:World}(s:Seat)(hwf:s.Wf)(hfresh:∀ i s' c,i≠h→Inb i=some s'→s'.has c→¬ s.has c)(hc:∀ c,s.has c→∃ cap k,w.heap[c]?=some (.chan cap #[] false k k false))(ho:∀ c,s.has c→∀ o∈l,o.bo≠c)
  (hx:X P Final l (upd Inb h (some s)) n h g w):X P Final l Inb n h g w:=by
 rintro m T ⟨gs,sl,q,Mem,rfl,hn,hg,hM,hdis,C⟩
 have hcB:∀ c,s.has c→c<w.heap.size:=fun c hcs=>by
  obtain ⟨cap,k,hk⟩:=hc c hcs
  exact (Array.getElem?_eq_some_iff.1 hk).1
 refine hx _ _ ⟨gs,sl,q,Mem,rfl,hn,hg,hM,fun i s' c hi hcs=>?_,C.reseat hM s hwf hfresh hc hcB⟩
 by_cases e:i=h
 ·subst e;rw [upd_same] at hi;obtain rfl:=Option.some.inj hi;exact ho c hcs
 ·rw [upd_ne Inb _ e] at hi;exact hdis i s' c hi hcs
theorem x_pre {g:Goroutine}{w:World}(b:Nat)(hb:w.heap.size≤b)(hx:XP P Final l (·=b) Inb n h g w):X P Final l Inb n h g w:=by
 rintro m T ⟨gs,sl,q,Mem,rfl,hn,hg,hM,hdis,C⟩
 refine hx _ _ ⟨gs,sl,q,Mem,rfl,hn,hg,hM,hdis,ring_grow C (fun _ h=>h) C.keep ?_ ?_ (Nat.le_refl _)⟩
 ·rintro x (h|⟨_,_,h,_⟩)
  ·exact .inl h
  ·exact h.elim
 ·rintro x (h|⟨b',i,rfl,hi,rfl⟩)
  ·exact .inl (.inl h)
  ·exact .inr ⟨_,rfl,hb⟩
theorem x_come {g:Goroutine}{w:World}(o:OpD)(hK:KO [o] w)(hdis:∀ i s c,Inb i=some s→s.has c→o.bo≠c)(hx:X P Final (o::l) Inb n h g w):XP P Final l (·=o.bo) Inb n h g w:=by
 rintro m T ⟨gs,sl,q,Mem,rfl,hn,hg,hM,hd,C⟩
 refine hx _ _ ⟨gs,sl,q,Mem,rfl,hn,hg,hM,fun i s c hi hc o' ho'=>?_,ring_grow C (fun w hw o' ho'=>hw o' (List.mem_cons_of_mem _ ho')) ?_ ?_ ?_ (Nat.le_refl _)⟩
 ·rcases List.mem_cons.1 ho' with rfl|ho'
  ·exact hdis i s c hi hc
  ·exact hd i s c hi hc o' ho'
 ·intro o' ho'
  rcases List.mem_cons.1 ho' with rfl|ho'
  ·exact hK _ (List.mem_cons_self ..)
  ·exact C.keep o' ho'
 ·rintro x (⟨o',ho',i,hi,rfl⟩|⟨b,i,rfl,hi,rfl⟩)
  ·exact .inl ⟨o',List.mem_cons_of_mem _ ho',i,hi,rfl⟩
  ·exact .inl ⟨o,List.mem_cons_self ..,i,hi,rfl⟩
 ·rintro x (⟨o',ho',i,hi,rfl⟩|⟨_,_,h,_⟩)
  ·rcases List.mem_cons.1 ho' with rfl|ho'
   ·exact .inl (.inr ⟨_,i,rfl,hi,rfl⟩)
   ·exact .inl (.inl ⟨o',ho',i,hi,rfl⟩)
  ·exact h.elim
theorem x_hire {a a' child:Goroutine}{w:World}{nc:Nat}(hrun:a.status=.running)(hgo:∀ d,stepG P (h == 0) a (w.at d)=.spawn a' child (w.at d) #[])(sn:Seat)(hwfn:sn.Wf)(hfresh:∀ i s c,Inb i=some s→s.has c→¬ sn.has c)
  (hcn:∀ c,sn.has c→∃ cap k,w.heap[c]?=some (.chan cap #[] false k k false))(ho:∀ c,sn.has c→∀ o∈l,o.bo≠c)(hchild:∀ B,(∀ o∈l,o.bo<B)→Sits P false (KO l) (SP l no) B sn nc child)
  (hx:∀ d,X P Final l (upd Inb n (some sn)) (n+1) h a' (w.at d)):X P Final l Inb n h a w:=by
 rintro m T ⟨gs,sl,q,Mem,rfl,hn,hg,hM,hdis,C⟩
 subst hn
 obtain ⟨N,gs',d,sl',T',q',hr,hsz,ha',C'⟩:=hire (sl:=sl) (fun w d=>KO.at w d) hM hg hrun hgo (fun e he=>by simp at he) C sn hwfn hfresh hcn (fun c hc=>by
  obtain ⟨cap,k,hk⟩:=hcn c hc
  exact (Array.getElem?_eq_some_iff.1 hk).1) (hchild _ fun o ho=>C.keep.lt ho)
 refine (hx d _ _ ⟨gs',sl',q',_,rfl,hsz,ha',.inl hM,fun i s c hi hc=>?_,C'⟩).back hr ⟨rfl,rfl,rfl⟩
 by_cases e:i=gs.size
 ·subst e;rw [upd_same] at hi;obtain rfl:=Option.some.inj hi;exact ho c hc
 ·rw [upd_ne Inb _ e] at hi;exact hdis i s c hi hc
end Go.Proofs.YtcgabodkegcpgaaDoor.Br
