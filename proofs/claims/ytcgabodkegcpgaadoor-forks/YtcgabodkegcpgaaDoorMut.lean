/- The bridge: a lone contract in company (must_calls); a walked piece of code in company (must_wp). -/
import Derived.Test.YtcgabodkegcpgaaDoorStq
import Derived.Conc.Token
import Derived.Conc.TokenWalk
import Derived.Conc.CompanyCalls
set_option linter.unusedVariables false
set_option linter.unusedSimpArgs false
set_option maxHeartbeats 20000000
set_option maxRecDepth 100000
namespace Go.Proofs.YtcgabodkegcpgaaDoor.Br
variable {P:Program} {S:FuncId->Bool} {meths:List String} {st:Bool} {sft:Nat->Nat}
open Go.Conc (G)
def Dry {α:Type}(P:Program):Sem α->Prop
 | .pure _=>True
 | .load _ _ k=>∀ v,Dry P (k v)
 | .store _ _ _ k=>Dry P k
 | .new _ k=>∀ r,Dry P (k r)
 | .shape _ k=>∀ s,Dry P (k s)
 | .freeze _ _ k=>Dry P k
 | .frozen _ k=>∀ b,Dry P (k b)
 | .getObj _ k=>∀ o,Dry P (k o)
 | .setObj _ _ k=>Dry P k
 | .choose _ _=>False
 | .sys _ _=>False
 | .program k=>Dry P (k P)
 | .mark _ k=>Dry P k
 | .halt _=>True
theorem Z6 {α β:Type}{e:Sem α}{f:α->Sem β}:Dry P e->(∀ a,Dry P (f a))->Dry P (e >>= f):=by
 intro h hf;show Dry P (e.bind f)
 induction e with
 | pure a=>exact hf a
 | load m a k ih=>exact λv=>ih v (h v)
 | store m a v k ih=>exact ih h
 | new o k ih=>exact λr=>ih r (h r)
 | shape r k ih=>exact λs=>ih s (h s)
 | freeze a n k ih=>exact ih h
 | frozen a k ih=>exact λb=>ih b (h b)
 | getObj r k ih=>exact λo=>ih o (h o)
 | setObj r o k ih=>exact ih h
 | choose q k ih=>exact h.elim
 | sys c k ih=>exact h.elim
 | program k ih=>exact ih P h
 | mark m k ih=>exact ih h
 | halt x=>trivial
theorem b3M {α:Type}(p:Program)(e:Sem α)(W:Prop)(Φ:α->Prop):∀ (w:World) (es:Array Event),E6 p W Φ e->Dry p e->Clear w->(e.runT p w es).1.world.drawn=w.drawn:=by
  induction e with
  | pure a=>intro w es _ _ _;rfl
  | load m a k ih =>
    intro w es h hd hc;simp only [Sem.runT];split
    · exact ih _ _ _ (h _) (hd _) hc
    · split
      · exact ih _ _ _ (h _) (hd _) hc
      · rfl
  | store m a x k ih =>
    intro w es h hd hc;cases x<;>simp only [Sem.runT]<;>first
      | rfl
      | (split
         · split
           · rfl
           · exact ih (w.setCell _ _) _ h.2 hd hc
         · split
           · rename_i w' t hs
             rw [← a5k hs];exact ih w' _ h.2 hd hc
           · rfl)
  | new o k ih=>intro w es h hd hc;simp only [Sem.runT];exact ih _ { w with heap:=w.heap.push o } _ (h.2 _) (hd _) hc
  | shape r k ih=>intro w es h hd hc;simp only [Sem.runT];exact ih _ _ _ (h _) (hd _) hc
  | freeze a n k ih=>intro w es h;exact h.elim
  | frozen a k ih=>intro w es h hd hc;simp only [Sem.runT];exact ih _ _ _ (U1 (h _)) (hd _) hc
  | getObj r k ih =>
    intro w es h hd hc;simp only [Sem.runT];split
    · rfl
    · exact ih _ _ _ (h.1 _) (hd _) hc
    · rfl
  | setObj r o k ih=>intro w es h;exact h.elim
  | choose q k ih=>intro w es h hd;exact hd.elim
  | sys c k ih=>intro w es h;exact h.elim
  | program k ih=>intro w es h hd hc;simp only [Sem.runT];exact ih _ _ _ h hd hc
  | mark m k ih=>intro w es h hd hc;simp only [Sem.runT];exact ih _ _ h.2.2 hd hc
  | halt x=>intro w es _ _ _;rfl
theorem a3Z {α β:Type}(f:α->Sem β)(h:∀ a,Dry P (f a)):∀ l:List α,Dry P (l.mapM f)
 | []=>by simp only [List.mapM_nil];exact trivial
 | a::l=>by
  simp only [List.mapM_cons];exact Z6 (h a) λ_=>Z6 (a3Z f h l) λ_=>trivial
theorem b6D {α β:Type}(f:α->Sem β)(h:∀ a,Dry P (f a))(xs:Array α):Dry P (xs.mapM f):=by
 rw [Array.mapM_eq_mapM_toList];exact Z6 (a3Z f h _) λ_=>trivial
theorem a8M (t:TypeId):Dry P (typeInfo t):=by
 show Dry P ((match P.info? t with|some d=>pure d|none=>stuck "no such type"):Sem TypeInfo);split<;>exact trivial
theorem a6s (t:TypeId):Dry P (underlying t):=by
 show Dry P ((match P.underlying t with|some d=>pure d|none=>stuck "no such type"):Sem TypeDesc);split<;>exact trivial
theorem a4a (a:Addr)(n:Nat):∀ (i:Nat) (acc:Array Value),Dry P (loadCellsFrom a i n acc):=by
 induction n with
 | zero=>exact λ_ _=>trivial
 | succ n ih=>exact λi acc v=>ih _ _
theorem a9Y (t:TypeId)(a:Addr):Dry P (loadVar t a):=by
 unfold loadVar;refine Z6 ?_ λb=>?_
 ·unfold isAgg;refine Z6 (a6s _) λu=>?_;split<;>exact trivial
 ·split
  ·exact Z6 (Z6 (a8M _) λ_=>trivial) λn=>Z6 (a4a _ _ _ _) λ_=>trivial
  ·exact λ_=>trivial
theorem a9Z (fn:Func)(tmps:Array Value):Dry P (results fn tmps):=by
 unfold results;refine Z6 (b6D _ (λr=>?_) _) λ_=>trivial;split
 ·exact trivial
 ·refine Z6 ?_ λ_=>a9Y _ _;unfold asAddr;split<;>exact trivial
structure Fit (sft:Nat->Nat) (w:World):Prop where
 soft:∀ i:Nat,sft i≠0->∃ c t,w.heap[i]?=some (.cells c t (0,0))
 clear:Clear w
theorem Lk.fit {v w:World}(h:Lk sft v w):Fit sft w:=⟨h.soft,h.sight⟩
theorem a2l {fr:Frame}(hL:OkL P fr)(hm:fr.mode=.returning){fn:Func}(hf:P.funcs[fr.fn]?=some fn)(m:Bool)(c:Frame)(cs:List Frame)(u:World):stepG P m (G fr (c::cs)) u =
  GStep.after (seen P fr.fn ((results fn fr.tmps).runT P u #[]).2) (match ((results fn fr.tmps).runT P u #[]).1 with
   | .ok v w=>.go (G (c.finish v) cs) w
   | .halt (.stuck s) w=>.ended (.stuck s (Frame.pos P fr)) w
   | .halt _ w=>.ended (.stuck "return: the result variables cannot be read" (Frame.pos P fr)) w):=by
 obtain ⟨f,tmps,todo,defers,mode,kind,round⟩:=fr;obtain ⟨hkind,hround,hdefers,_⟩:=hL;dsimp only at hkind hround hdefers hm hf;subst hkind hround hdefers hm;simp only [stepG,G,unwind,hf,doReturn];rcases (Sem.runT P (results fn tmps) u #[]) with ⟨r,es⟩
 cases r with
 | ok a b=>rfl
 | halt h b=>cases h<;>rfl
theorem S8 (R:Rules P S meths st){f:FuncId}(hf:S f=true){args:Array Value}{w0:World}(hfit:Fit sft w0)(main:Bool){Q:Value->World->Prop}
  (h:∀ v,Lk sft v w0->Calls P f args v (λe v'=>match e with|.returned x=>Q x v'|_=>False))(c:Frame)(cs:List Frame) :
  Must P main (DL st sft) (λg w=>∃ x v,g=G (c.finish x) cs/\Lk sft v w/\Q x v) (G (Frame.enter P f args .normal) (c::cs)) w0:=by
 have h0:OkF P S meths st (Frame.enter P f args .normal):=.enter R hf args
 have key:=a4A (sft:=sft) (k:=[]) (k0:=[]) (base:=c::cs) R h0 (λ_=>rfl) (λ_=>rfl) (λe=>absurd rfl e) hfit.soft hfit.clear main (F:=λfr v=>∃ x,fr.leaving P v (.returned x)/\Q x v) (λv hv=>by
  obtain ⟨e,w',fr,hR,hc,hfn,hlv⟩:=h v hv [O6]
  cases e with
  | returned x =>
   obtain ⟨n,hn⟩:=hc;exact ⟨n,fr,w',by rw [a1e];exact hn,x,hlv,hR⟩
  | panicked ch=>exact hR.elim
  | outgrown=>exact hR.elim)
 rw [a1e] at key;refine key.then λg w ⟨fr,v,hg,hl,⟨x,hlv,hQ⟩,hO⟩=>?_;rw [a1e] at hg hlv;subst hg;have hmode:fr.mode≠.run:=by rw [hlv.1];simp
 obtain ⟨hm,hd,hk,fn,hf,hr⟩:=hlv;have hpop:∀ d,∃ w' es,stepG P main (G fr (c::cs)) (w.at d)=.go (G (c.finish x) cs) w' es/\DL st sft (w.at d) w' es/\Lk sft v w':=by
  intro d;have hw0:(stepG P main (G fr (c::cs)) (w.at d)).wd<=(w.at d).drawn+0:=by
   have e:stepG P main (G fr (c::cs)) (w.at d)=_:=a2l (P:=P) hO.leaves hm hf main c cs (w.at d);rw [e,a2F];have h1:=b3M P (results fn fr.tmps) (st=true) _ (w.at d) #[] (a5f fn fr.tmps) (a9Z fn fr.tmps) hl.sight;revert h1;generalize (results fn fr.tmps).runT P (w.at d) #[]=r;intro h1;rcases r with ⟨r,es⟩
   cases r with
   | ok a b=>exact Nat.le_of_eq h1
   | halt a b=>cases a<;>exact Nat.le_of_eq h1
  have hv:∃ es,stepG P true (G fr (c::cs)) v=.go (G (c.finish x) cs) v es:=by
   have e:=a2l (P:=P) hO.leaves hm hf true c cs v;have h2:((results fn fr.tmps).runT P v #[]).1=.ok x v:=by rw [Sem.runT_fst];exact hr
   rw [e,h2];exact ⟨_,rfl⟩
  obtain ⟨es0,hv⟩:=hv;rcases a5J (main':=true) (c':=c) (cs':=cs) hO.leaves hmode (hl.at d) (N:=0) (λi q hi=>by omega) hw0 with ⟨o,v',es,h⟩|⟨v',w',es,hb,⟨x',h1,h2⟩|⟨ch,h1,h2⟩⟩
  ·rw [hv] at h;cases h
  ·rw [hv] at h1;obtain ⟨e1,e2,_⟩:=GStep.go.inj h1;obtain ⟨n,hdr⟩:=hb.drew;refine ⟨w',es,?_,⟨⟨hb.kept.same,hb.kept.size,hb.kept.new⟩,hb.off,hdr.all⟩,by rw [e2];exact hb.lk⟩;have e3:c.finish x=c.finish x':=congrArg Goroutine.frame e1;rw [h2,e3]
  ·rw [hv] at h1;obtain ⟨e1,e2,_⟩:=GStep.go.inj h1;obtain ⟨n,hdr⟩:=hb.drew;refine ⟨w',es,?_,⟨⟨hb.kept.same,hb.kept.size,hb.kept.new⟩,hb.off,hdr.all⟩,by rw [e2];exact hb.lk⟩;have e3:c.finish x=c.raise ch:=congrArg Goroutine.frame e1;rw [h2,e3]
 exact .step (λ_=>G (c.finish x) cs) (λd=>(hpop d).choose) (λd=>(hpop d).choose_spec.choose) rfl (λd=>(hpop d).choose_spec.choose_spec.1) (λd=>(hpop d).choose_spec.choose_spec.2.1)
  (λd=>.stop ⟨x,v,rfl,(hpop d).choose_spec.choose_spec.2.2,hQ⟩)
theorem a8N (R:Rules P S meths st){c:Code}(hc:O3 P S meths st c=true){a:Act}(ha:a.defers=[]){b:Frame}(hb:b.kind=.normal)(hbf:∃ fn,P.funcs[b.fn]?=some fn){w0:World}(hfit:Fit sft w0)(main:Bool){Q:Exit->Act->World->Prop}
  (hQ:∀ e a w,Q e a w->e=.normal\/e=.ret)(h:∀ v,Lk sft v w0->c.wp P Q a v)(k:List Item)(cs:List Frame) :
  Must P main (DL st sft) (λg w=>∃ e a' v,Q e a' v/\Lk sft v w/\(e=.normal/\g=G (b.at a' k) cs\/e=.ret/\∃ todo,g=G { b.at a' todo with mode:=.returning } cs)) (G (b.at a (.code c::k)) cs) w0:=by
 have h0:OkF P S meths st (b.at a [.code c]):=⟨hb,rfl,ha,hbf,λx hx=>by
  rcases List.mem_cons.1 hx with rfl|hx
  ·exact hc
  ·cases hx⟩
 have key:=a4A (sft:=sft) (k:=k) (k0:=[.code (.refuse "")]) (base:=cs) R h0 (λ_=>rfl) (λe=>by cases e) (λ_=>rfl) hfit.soft hfit.clear main
  (F:=λfr v=>∃ e a',Q e a' v/\(e=.normal/\fr=b.at a' [.code (.refuse "")]\/e=.ret/\∃ todo,fr={ b.at a' todo with mode:=.returning })) (λv hv=>by
  obtain ⟨e,a',w',hq,har⟩:=h v hv b [.code (.refuse "")] [O6];rcases hQ e a' w' hq with rfl|rfl
  ·obtain ⟨n,hn⟩:=har;exact ⟨n,b.at a' [.code (.refuse "")],w',hn,_,a',hq,.inl ⟨rfl,rfl⟩⟩
  ·obtain ⟨todo,n,hn⟩:=har
   exact ⟨n,_,w',hn,_,a',hq,.inr ⟨rfl,todo,rfl⟩⟩)
 refine key.mono (λ_ _ _ h=>h) λg w ⟨fr,v,hg,hl,⟨e,a',hq,he⟩,hO⟩=>⟨e,a',v,hq,hl,?_⟩
 rcases he with ⟨rfl,he⟩|⟨rfl,todo,he⟩
 ·obtain rfl:fr=b.at a' []:=b2m (k:=[.code (.refuse "")]) he;exact .inl ⟨rfl,hg⟩
 ·refine .inr ⟨rfl,fr.todo ++ k,?_⟩;rw [hg];cases fr
  simp only [Frame.app,Frame.at,Frame.mk.injEq] at he ⊢;obtain ⟨h1,h2,h3,h4,h5,h6,h7⟩:=he;subst h1 h2 h4 h5 h6 h7;rfl
end Go.Proofs.YtcgabodkegcpgaaDoor.Br
namespace Go.Proofs.YtcgabodkegcpgaaDoor.Br
open Go.Conc
variable {P:Program} {st:Bool} {sft:Nat->Nat} {K K':World->Prop} {Still Still':Loc->Prop} {B B':Nat} {Mem:Nat->Prop} {Inb:Nat->Option Seat} {h:Nat}
theorem b0a (hS:∀ l,Still l->Still' l)(hB:B<=B'){e:Event}(h:EvC Still B e):EvC Still' B' e:=by
 obtain ⟨a,h1,h2,h3⟩:=h;exact ⟨a,h1,hS _ h2,Nat.lt_of_lt_of_le h3 hB⟩
theorem a7W (hK:∀ w,K' w->K w)(hS:∀ l,Still l->Still' l)(hB:B<=B'){main:Bool}{s:Seat}{g g₂:Goroutine}(h:AtIn P main K Still B s g g₂):AtIn P main K' Still' B' s g g₂:=by
 obtain ⟨h1,h2,h3,h4,h5,es,h6,h7⟩:=h;exact ⟨h1,h2,h3,h4,h5,es,λe he=>b0a hS hB (h6 e he),λw hw=>h7 w (hK w hw)⟩
theorem a7X (hK:∀ w,K' w->K w)(hS:∀ l,Still l->Still' l)(hB:B<=B'){main:Bool}{Stop Stop':Goroutine->World->Prop}(hSt:∀ g w,Stop g w->Stop' g w):∀ {n:Nat} {g:Goroutine} {w:World},Goes P main (RK K) (DS Still B) Stop n g w->Goes P main (RK K') (DS Still' B') Stop' n g w
 | 0,_,_,h=>λw₁ hw=>hSt _ _ (h w₁ (hK _ hw))
 | n+1,g,w,h=>by
  rcases h with h|⟨h1,h2⟩
  ·exact .inl λw₁ hw=>hSt _ _ (h w₁ (hK _ hw))
  ·refine .inr ⟨h1,λw₁ hw=>?_⟩;have:=h2 w₁ (hK _ hw);revert this
   cases stepG P main g w₁ with
   | go g' w' es=>exact λ⟨⟨a,b⟩,c⟩=>⟨⟨a,λe he=>b0a hS hB (b e he)⟩,a7X hK hS hB hSt c⟩
   | _=>exact id
theorem b3N (hK:∀ w,K' w->K w)(hS:∀ l,Still l->Still' l)(hB:B<=B'){main:Bool}{s:Seat}{n:Nat}{g:Goroutine}(h:Sits P main K Still B s n g):Sits P main K' Still' B' s n g:=by
 rcases h with ⟨k,w,h1,h2⟩|⟨h1,g₀,g₂,h2,h3⟩
 ·exact .inl ⟨k,w,h1,a7X hK hS hB (λg _ ⟨g₂,h⟩=>⟨g₂,a7W hK hS hB h⟩) h2⟩
 ·exact .inr ⟨h1,g₀,g₂,h2,a7W hK hS hB h3⟩
theorem a7Y (hK:∀ w,K' w->K w)(hS:∀ l,Still l->Still' l)(hB:B<=B'){T:Trace}{i n:Nat}{g:Goroutine}{o:Option Seat}(h:Idle P K Still B T i n g o):Idle P K' Still' B' T i n g o:=by
 cases o with
 | none=>exact h
 | some s=>exact b3N hK hS hB h
theorem a7Z {T:Trace}{gs:Array Goroutine}{w:World}{q:Nat->Nat}(C:Ring P K Still B Mem Inb h T gs w q)(hK:∀ w,K' w->K w)(hw:K' w)(hS:∀ l,Still l->Still' l)(hnew:∀ l,Still' l->Still l\/∃ a:Addr,l=.cell a/\B<=a.block)(hB:B<=B'):Ring P K' Still' B' Mem Inb h T gs w q:=by
 have hp:PastG Still' Mem (λg=>g≠h/\(Inb g).isSome) B' (Knows T h) T:=by
  have p:=C.past;refine ⟨p.clean,λi a ha hm=>(p.known i a ha hm).imp id λ⟨x,y,z⟩=>⟨x,hS _ y,z⟩,λi a ha hwr hs g hg=>?_,p.hears,λop hop=>MemAct.low_mono hB (p.seen op hop)⟩;rcases hnew _ hs with hs|⟨b,hb,hlt⟩
  ·exact p.wrote i a ha hwr hs g hg
  ·
   obtain ⟨x,hx,hxa⟩:=touch_of ha;have hl:=p.seen x (Array.mem_of_getElem? hx);exfalso
   cases hact:x.act with
   | access e =>
    rw [hact] at hl hxa;simp only [MemAct.touch?,Option.some.injEq] at hxa;subst hxa;simp only [MemAct.low] at hl;simp only at hb;rw [hb] at hl;have:b.block<B:=hl;omega
   | mark m =>
    rw [hact] at hl hxa;cases m<;>simp only [MemAct.touch?,Option.some.injEq,reduceCtorEq] at hxa
    all_goals
     subst hxa;simp only [Loc.cell.injEq] at hb;subst hb;have:_<B:=hl;omega
   | _=>rw [hact] at hxa;simp [MemAct.touch?] at hxa
 exact ⟨λi g hi hg=>a7Y hK hS hB (C.idle i g hi hg),C.chans,C.wf,C.live,C.inj,C.above,λi s e=>⟨(C.mem i s e).1,λc hc=>Nat.lt_of_lt_of_le ((C.mem i s e).2 c hc) hB⟩,C.nomem,C.lo,hp,hw⟩
def a8O (sft:Nat->Nat)(Still:Loc->Prop):Prop:=∀ l,Still l->∃ a:Addr,l=.cell a/\a.off<sft a.block
theorem b6E {T:Trace}{gs:Array Goroutine}{w w':World}{q:Nat->Nat}{es:Array Event}(C:Ring P K Still B Mem Inb h T gs w q)(hKD:∀ w w' es,DL st sft w w' es->K w->K w')(hSt:st=true->a8O sft Still)(hB:w'.heap.size<=B)(hd:DL st sft w w' es):DH K Still B Inb w w' es:=by
 refine ⟨hKD w w' es hd,λi s c hi hc=>?_,λe he=>?_⟩
 ·obtain ⟨cap,k,hk⟩:=C.chans i s c (λz=>z) hi hc;obtain ⟨o',h1,h2⟩:=hd.1.same c _ hk;rw [h1,hk];exact congrArg some h2
 ·have ho:=hd.2.1 e he;obtain ⟨loc,wr,sy⟩:=e;unfold Off at ho
  cases loc with
  | cell a =>
   dsimp only at ho;refine ⟨λx hx hs=>?_,by simp,by simp,Nat.lt_of_lt_of_le ho.1 hB⟩;have hx':x=⟨.cell a,wr,if sy then .atomic else .plain⟩:=by
    have:MemAct.ofEvent ⟨.cell a,wr,sy⟩=.access ⟨.cell a,wr,sy⟩:=by cases wr<;>cases sy<;>rfl
    rw [this] at hx;exact (Option.some.inj hx).symm
   subst hx'
   cases wr with
   | false=>rfl
   | true =>
    obtain ⟨h1,h2⟩:=ho.2 rfl;obtain ⟨b,hb,hlt⟩:=hSt h2 _ hs;obtain rfl:a=b:=Loc.cell.inj hb;omega
  | obj r =>
   dsimp only at ho;obtain ⟨h1,rfl⟩:=ho;refine ⟨λx hx hs=>?_,by simp,by simp,Nat.lt_of_lt_of_le h1 hB⟩;have hx':x=⟨.obj r,false,if sy then .atomic else .plain⟩:=by
    have:MemAct.ofEvent ⟨.obj r,false,sy⟩=.access ⟨.obj r,false,sy⟩:=by cases sy<;>rfl
    rw [this] at hx;exact (Option.some.inj hx).symm
   subst hx';rfl
  | output=>exact ho.elim
  | goroutines=>exact ho.elim
  | mark m =>
   dsimp only at ho;rcases ho with rfl|⟨f,rfl⟩
   ·exact ⟨λx hx=>(by cases hx),by simp,by simp,trivial⟩
   ·exact ⟨λx hx=>(by cases hx),by simp,by simp,trivial⟩
def a5v (w w':World):Prop:=w'.os=w.os/\w'.output=w.output/\w'.tape=w.tape
theorem a5v.trans {a b c:World}(h:a5v a b)(k:a5v b c):a5v a c:=⟨k.1.trans h.1,k.2.1.trans h.2.1,k.2.2.trans h.2.2⟩
theorem DL.calm {w w':World}{es:Array Event}(h:DL st sft w w' es):a5v w w':=⟨congrArg (λx=>x.2.1) h.2.2,congrArg (λx=>x.2.2) h.2.2,congrArg (λx=>x.1) h.2.2⟩
theorem b3O (hKat:∀ w d,K w->K (w.at d))(hKD:∀ w w' es,DL st sft w w' es->K w->K w')(hSt:st=true->a8O sft Still){Stop:Goroutine->World->Prop}{a:Goroutine}{w:World}(hG:Must P (h == 0) (DL st sft) Stop a w) :
  ∀ {gs:Array Goroutine} {T:Trace} {q:Nat->Nat} {sl:Option (Nat × Nat)},gs[h]?=some a->Ring P K Still w.heap.size Mem Inb h T gs w q ->
  ∃ (N:Nat) (gs':Array Goroutine) (a':Goroutine) (w':World) (sl':Option (Nat × Nat)) (T':Trace) (q':Nat->Nat),
   runNT P N (crowd gs w sl) T=(.next (crowd gs' w' sl'),T')/\gs'.size=gs.size/\gs'[h]?=some a'/\Stop a' w'/\a5v w w'/\Ring P K Still w'.heap.size Mem Inb h T' gs' w' q':=by
 induction hG with
 | stop hs=>intro gs T q sl ha C;exact ⟨0,gs,_,_,sl,T,q,rfl,rfl,ha,hs,⟨rfl,rfl,rfl⟩,C⟩
 | @step g w g' w' es hrun hst hD _ ih =>
  intro gs T q sl ha C;obtain ⟨N,gs1,d,d',sl1,sl2,T1,q1,hr,hstT,hsz,ha1,C1⟩:=picked (sl:=sl) hKat ha hrun C;have hle:w.heap.size<=(w' d').heap.size:=(hD d').1.size;have C2:Ring P K Still (w' d').heap.size Mem Inb h T1 gs1 (w.at d') q1:=C1.mono hle (λi g hi hg=>a7Y (λ_ h=>h) (λ_ h=>h) hle (C1.idle i g hi hg));obtain ⟨C3,ha3⟩:=C2.own (a':=g' d') ha1 (b6E C2 hKD hSt (Nat.le_refl _) (hD d'));have hrt:=runT_crowd_go (sl:=sl2) ha1 (hst d');obtain ⟨N2,gs',a',w2,sl',T',q',hr2,hsz2,ha',hS,hcm,C'⟩:=ih d' (sl:=sl2) ha3 C3;exact ⟨N+1+N2,gs',a',w2,sl',T',q',runNT_then (runNT_succ_of hr (hstT.trans hrt)) hr2,by rw [hsz2];simpa using hsz,ha',hS,⟨hcm.1.trans (DL.calm (hD d')).1,hcm.2.1.trans (DL.calm (hD d')).2.1,hcm.2.2.trans (DL.calm (hD d')).2.2⟩,C'⟩
end Go.Proofs.YtcgabodkegcpgaaDoor.Br
namespace Go.Proofs.YtcgabodkegcpgaaDoor.Br
open Go.Conc
open Go.ConcN (upd upd_same upd_ne)
structure OpD where
 gid:Nat
 bo:Nat
 tu:Nat
 to:Nat
 en:Nat
def KO (l:List OpD)(w:World):Prop:=∀ o∈l,∃ c t,w.heap[o.bo]?=some (.cells c t (0,0))/\c[0]?=some (.chan (some o.tu))/\c[1]?=some (.chan (some o.to))/\c[2]?=some (.chan (some o.en))
def SO (l:List OpD)(x:Loc):Prop:=∃ o∈l,∃ i,i<3/\x=.cell ⟨o.bo,i,none⟩
open Classical in
noncomputable def sfO (l:List OpD)(b:Nat):Nat:=if ∃ o∈l,o.bo=b then 3 else 0
theorem I9 {l:List OpD}{o:OpD}(h:o∈l):sfO l o.bo=3:=by unfold sfO;rw [if_pos ⟨o,h,rfl⟩]
theorem b1s {l:List OpD}{b:Nat}(h:sfO l b≠0):∃ o∈l,o.bo=b:=by
 unfold sfO at h;split at h
 ·assumption
 ·exact absurd rfl h
theorem G6 {l:List OpD}{b:Nat}(h:∀ o∈l,o.bo≠b):sfO l b=0:=by
 unfold sfO;rw [if_neg];rintro ⟨o,ho,e⟩;exact h o ho e
theorem b9h (l:List OpD):a8O (sfO l) (SO l):=by
 rintro x ⟨o,ho,i,hi,rfl⟩;exact ⟨_,rfl,by rw [I9 ho];exact hi⟩
theorem KO.at {l:List OpD}(w:World)(d:Nat)(h:KO l w):KO l (w.at d):=h
theorem KO.dl {st:Bool}{l:List OpD}(w w':World)(es:Array Event)(hd:DL st (sfO l) w w' es)(h:KO l w):KO l w':=by
 intro o ho;obtain ⟨c,t,h0,h1,h2,h3⟩:=h o ho;obtain ⟨o',e1,e2⟩:=hd.1.same _ _ h0;obtain ⟨c',rfl,_,hj⟩:=e2;rw [I9 ho] at hj;exact ⟨c',t,e1,by rw [hj 0 (by omega)];exact h1,by rw [hj 1 (by omega)];exact h2,by rw [hj 2 (by omega)];exact h3⟩
theorem KO.chan {l:List OpD}{w:World}{c:Nat}(hc:∀ o∈l,o.bo≠c)(cap:Nat)(buf:Array Value)(cl:Bool)(a b:Nat)(tm:Bool)(h:KO l w):KO l (w.setChan c cap buf cl a b tm):=by
 intro o ho;obtain ⟨x,t,h0,h1⟩:=h o ho;exact ⟨x,t,by rw [heap_setChan_ne _ _ _ _ _ _ _ (λe=>hc o ho e.symm)];exact h0,h1⟩
theorem KO.lt {l:List OpD}{w:World}(h:KO l w){o:OpD}(ho:o∈l):o.bo<w.heap.size:=by
 obtain ⟨c,t,h0,_⟩:=h o ho;exact (Array.getElem?_eq_some_iff.1 h0).1
variable {st:Bool} {P:Program} {Final:Machine->Trace->Prop} {l:List OpD} {Inb:Nat->Option Seat} {n h:Nat}
def Ends (P:Program)(Final:Machine->Trace->Prop)(m:Machine)(T:Trace):Prop:=∃ N m' T',runNT P N m T=(.next m',T')/\Final m' T'/\a5v m.world m'.world
theorem Ends.back {m m':Machine}{T T':Trace}{N:Nat}(h:runNT P N m T=(.next m',T'))(hc:a5v m.world m'.world)(he:Ends P Final m' T'):Ends P Final m T:=by
 obtain ⟨N',m'',T'',h1,h2,h3⟩:=he;exact ⟨N+N',m'',T'',runNT_then h h1,h2,hc.trans h3⟩
def SP (l:List OpD)(pre:Nat->Prop)(x:Loc):Prop:=SO l x\/∃ b i,pre b/\i<3/\x=.cell ⟨b,i,none⟩
def no:Nat->Prop:=λ_=>False
theorem b9i (l:List OpD):a8O (sfO l) (SP l no):=by
 rintro x (h|⟨_,_,h,_⟩)
 ·exact b9h l x h
 ·exact h.elim
def Sit (P:Program)(l:List OpD)(pre:Nat->Prop)(Inb:Nat->Option Seat)(n h:Nat)(g:Goroutine)(w:World)(m:Machine)(T:Trace):Prop :=
 ∃ gs sl q Mem,m=crowd gs w sl/\gs.size=n/\gs[h]?=some g/\Mem h/\(∀ i s c,Inb i=some s->s.has c->∀ o∈l,o.bo≠c)/\Ring P (KO l) (SP l pre) w.heap.size Mem Inb h T gs w q
def XP (P:Program)(Final:Machine->Trace->Prop)(l:List OpD)(pre:Nat->Prop)(Inb:Nat->Option Seat)(n h:Nat)(g:Goroutine)(w:World):Prop:=∀ m T,Sit P l pre Inb n h g w m T->Ends P Final m T
abbrev X (P:Program)(Final:Machine->Trace->Prop)(l:List OpD)(Inb:Nat->Option Seat)(n h:Nat)(g:Goroutine)(w:World):Prop:=XP P Final l no Inb n h g w
theorem Sit.keep {pre:Nat->Prop}{g:Goroutine}{w:World}{m:Machine}{T:Trace}(hs:Sit P l pre Inb n h g w m T):KO l w:=by
 obtain ⟨gs,sl,q,Mem,_,_,_,_,_,C⟩:=hs;exact C.keep
theorem b2S {pre:Nat->Prop}(hp:st=true->pre=no){g:Goroutine}{w:World}(hm:Must P (h == 0) (DL st (sfO l)) (XP P Final l pre Inb n h) g w):XP P Final l pre Inb n h g w:=by
 rintro m T ⟨gs,sl,q,Mem,rfl,hn,hg,hM,hdis,C⟩;obtain ⟨N,gs',a',w',sl',T',q',hr,hsz,ha',hx,hcm,C'⟩:=b3O (sl:=sl) (λw d=>KO.at w d) (λw w' es hd=>KO.dl w w' es hd) (λe=>by rw [hp e];exact b9i l) hm hg C;exact (hx _ _ ⟨gs',sl',q',Mem,rfl,hsz.trans hn,ha',hM,hdis,C'⟩).back hr hcm
theorem a0m {g:Goroutine}{w:World}(hm:Must P (h == 0) (DL st (sfO l)) (X P Final l Inb n h) g w):X P Final l Inb n h g w:=b2S (λ_=>rfl) hm
theorem b6F {a a₂:Goroutine}{j c kk nh:Nat}{s sh:Seat}{v z z':Value}{w:World}(hjh:j≠h)(hjn:j<n)(hj:Inb j=some s)(hk:s.cases[kk]?=some (rcase c z))(hrun:a.status=.running)
  (hsend:∀ d,stepG P (h == 0) a (w.at d)=.comm a₂ #[scase c v z'] true .send (w.at d) #[])(hh:Inb h=some sh)(hsit:∀ B,(∀ o∈l,o.bo<B)->Sits P (h == 0) (KO l) (SP l no) B sh nh (Go.Conc.served a₂ undef))
  (hnext:∀ g₂ d cap k,s.home g₂->w.heap[c]?=some (.chan cap #[] false k k false)->X P Final l Inb n j (Go.Conc.served g₂ (commResult s.cases s.shape kk v true)) ((w.at d).setChan c cap #[] false (k+1) (k+1) false)):X P Final l Inb n h a w:=by
 rintro m T ⟨gs,sl,q,Mem,rfl,hn,hg,hM,hdis,C⟩;obtain ⟨N,m',T',hr,gs',g₂,d,k,cap,sl',q',rfl,hsz,hgj,hhome,hc,C'⟩:=give (sl:=sl) (λw d=>KO.at w d) (λw i s c cap buf cl a b tm hi hc hK=>KO.chan (hdis i s c hi hc) cap buf cl a b tm hK) hjh (hn▸hjn) hj hk hM hg hrun hsend (λe he=>by simp at he) C
  (Inb':=Inb) (λ_ _=>rfl) (.inl rfl) (nh:=nh) (λT' _=>by rw [hh];exact hsit _ λo ho=>C.keep.lt ho)
 refine (hnext g₂ d cap k hhome hc _ _ ⟨gs',sl',q',λg=>Mem g/\(Inb g≠none\/g=j),rfl,hsz.trans hn,hgj,⟨(C.mem j s hj).1,.inr rfl⟩,hdis,?_⟩).back hr ⟨rfl,rfl,rfl⟩;have e:((w.at d).setChan c cap #[] false (k+1) (k+1) false).heap.size=w.heap.size:=by simp [World.setChan,World.at]
 rw [e];exact C'
theorem c0G {a a':Goroutine}{j k c kk cap nh:Nat}{z:Value}{s:Seat}{w:World}(hh0:0<h)(hjh:j≠h)(hjn:j<n)(hj:Inb j=some s)(hk:s.cases[kk]?=some (rcase c z))(hrun:a.status=.running)(hwake:mayWake P a=true)(ha':a'.status=.running)
  (hc:w.heap[c]?=some (.chan cap #[] false k k false))(hclose:∀ d,stepG P (h == 0) a (w.at d)=.go a' ((w.at d).setChan c cap #[] true k k false) (closeEvents c))(hquit:QuitsD P nh 0 a')
  (hnext:∀ g₂ d,s.home g₂->X P Final l (upd (upd Inb j none) h none) n j (Go.Conc.served g₂ (commResult s.cases s.shape kk z false)) ((w.at d).setChan c cap #[] true k k false)):X P Final l Inb n h a w:=by
 rintro m T ⟨gs,sl,q,Mem,rfl,hn,hg,hM,hdis,C⟩;obtain ⟨N,gs',g₂,d,sl',T',q',hr,hsz,hgj,hhome,C'⟩:=give_close (sl:=sl) (λw d=>KO.at w d) (λw i s c cap buf cl a b tm hi hc hK=>KO.chan (hdis i s c hi hc) cap buf cl a b tm hK) hjh (hn▸hjn) hj hk hM hg hrun hwake ha' hc hclose C
  (Inb':=upd (upd Inb j none) h none) (λx hx1 hx=>by rw [upd_ne _ _ hx1,upd_ne Inb _ hx]) (.inr (upd_same _ h _)) (by rw [upd_ne _ _ hjh,upd_same]) (nh:=nh) (λT' hD=>by rw [upd_same];exact ⟨hh0,by rw [hD];exact hquit⟩)
 refine (hnext g₂ d hhome _ _ ⟨gs',sl',q',λg=>Mem g/\(upd (upd Inb j none) h none g≠none\/g=j),rfl,hsz.trans hn,hgj,⟨(C.mem j s hj).1,.inr rfl⟩,λi s' c' hi=>?_,?_⟩).back hr ⟨rfl,rfl,rfl⟩
 rotate_left
 ·have e:((w.at d).setChan c cap #[] true k k false).heap.size=w.heap.size:=by simp [World.setChan,World.at]
  rw [e];exact C'
 ·by_cases e1:i=h
  ·subst e1;rw [upd_same] at hi;cases hi
  ·rw [upd_ne _ _ e1] at hi
   by_cases e:i=j
   ·subst e;rw [upd_same] at hi;cases hi
   ·rw [upd_ne Inb _ e] at hi;exact hdis i s' c' hi
theorem b0b {g:Goroutine}{w:World}(s:Seat)(hwf:s.Wf)(hfresh:∀ i s' c,i≠h->Inb i=some s'->s'.has c->¬ s.has c)(hc:∀ c,s.has c->∃ cap k,w.heap[c]?=some (.chan cap #[] false k k false))(ho:∀ c,s.has c->∀ o∈l,o.bo≠c)
  (hx:X P Final l (upd Inb h (some s)) n h g w):X P Final l Inb n h g w:=by
 rintro m T ⟨gs,sl,q,Mem,rfl,hn,hg,hM,hdis,C⟩;have hcB:∀ c,s.has c->c<w.heap.size:=λc hcs=>by
  obtain ⟨cap,k,hk⟩:=hc c hcs;exact (Array.getElem?_eq_some_iff.1 hk).1
 refine hx _ _ ⟨gs,sl,q,Mem,rfl,hn,hg,hM,λi s' c hi hcs=>?_,C.reseat hM s hwf hfresh hc hcB⟩
 by_cases e:i=h
 ·subst e;rw [upd_same] at hi;obtain rfl:=Option.some.inj hi;exact ho c hcs
 ·rw [upd_ne Inb _ e] at hi;exact hdis i s' c hi hcs
theorem c1O {g:Goroutine}{w:World}(b:Nat)(hb:w.heap.size<=b)(hx:XP P Final l (·=b) Inb n h g w):X P Final l Inb n h g w:=by
 rintro m T ⟨gs,sl,q,Mem,rfl,hn,hg,hM,hdis,C⟩;refine hx _ _ ⟨gs,sl,q,Mem,rfl,hn,hg,hM,hdis,a7Z C (λ_ h=>h) C.keep ?_ ?_ (Nat.le_refl _)⟩
 ·rintro x (h|⟨_,_,h,_⟩)
  ·exact .inl h
  ·exact h.elim
 ·rintro x (h|⟨b',i,rfl,hi,rfl⟩)
  ·exact .inl (.inl h)
  ·exact .inr ⟨_,rfl,hb⟩
theorem c0H {g:Goroutine}{w:World}(o:OpD)(hK:KO [o] w)(hdis:∀ i s c,Inb i=some s->s.has c->o.bo≠c)(hx:X P Final (o::l) Inb n h g w):XP P Final l (·=o.bo) Inb n h g w:=by
 rintro m T ⟨gs,sl,q,Mem,rfl,hn,hg,hM,hd,C⟩;refine hx _ _ ⟨gs,sl,q,Mem,rfl,hn,hg,hM,λi s c hi hc o' ho'=>?_,a7Z C (λw hw o' ho'=>hw o' (List.mem_cons_of_mem _ ho')) ?_ ?_ ?_ (Nat.le_refl _)⟩
 ·rcases List.mem_cons.1 ho' with rfl|ho'
  ·exact hdis i s c hi hc
  ·exact hd i s c hi hc o' ho'
 ·intro o' ho';rcases List.mem_cons.1 ho' with rfl|ho'
  ·exact hK _ (List.mem_cons_self ..)
  ·exact C.keep o' ho'
 ·rintro x (⟨o',ho',i,hi,rfl⟩|⟨b,i,rfl,hi,rfl⟩)
  ·exact .inl ⟨o',List.mem_cons_of_mem _ ho',i,hi,rfl⟩
  ·exact .inl ⟨o,List.mem_cons_self ..,i,hi,rfl⟩
 ·rintro x (⟨o',ho',i,hi,rfl⟩|⟨_,_,h,_⟩)
  ·rcases List.mem_cons.1 ho' with rfl|ho'
   ·exact .inl (.inr ⟨_,i,rfl,hi,rfl⟩)
   ·exact .inl (.inl ⟨o',ho',i,hi,rfl⟩)
  ·exact h.elim
theorem c0I {a a' child:Goroutine}{w:World}{nc:Nat}(hrun:a.status=.running)(hgo:∀ d,stepG P (h == 0) a (w.at d)=.spawn a' child (w.at d) #[])(sn:Seat)(hwfn:sn.Wf)(hfresh:∀ i s c,Inb i=some s->s.has c->¬ sn.has c)
  (hcn:∀ c,sn.has c->∃ cap k,w.heap[c]?=some (.chan cap #[] false k k false))(ho:∀ c,sn.has c->∀ o∈l,o.bo≠c)(hchild:∀ B,(∀ o∈l,o.bo<B)->Sits P false (KO l) (SP l no) B sn nc child)
  (hx:∀ d,X P Final l (upd Inb n (some sn)) (n+1) h a' (w.at d)):X P Final l Inb n h a w:=by
 rintro m T ⟨gs,sl,q,Mem,rfl,hn,hg,hM,hdis,C⟩;subst hn
 obtain ⟨N,gs',d,sl',T',q',hr,hsz,ha',C'⟩:=hire (sl:=sl) (λw d=>KO.at w d) hM hg hrun hgo (λe he=>by simp at he) C sn hwfn hfresh hcn (λc hc=>by
  obtain ⟨cap,k,hk⟩:=hcn c hc
  exact (Array.getElem?_eq_some_iff.1 hk).1) (hchild _ λo ho=>C.keep.lt ho)
 refine (hx d _ _ ⟨gs',sl',q',_,rfl,hsz,ha',.inl hM,λi s c hi hc=>?_,C'⟩).back hr ⟨rfl,rfl,rfl⟩
 by_cases e:i=gs.size
 ·subst e;rw [upd_same] at hi;obtain rfl:=Option.some.inj hi;exact ho c hc
 ·rw [upd_ne Inb _ e] at hi;exact hdis i s c hi hc
end Go.Proofs.YtcgabodkegcpgaaDoor.Br
namespace Go.Proofs.YtcgabodkegcpgaaDoor.Br
open Go.Conc
variable {P:Program} {S:FuncId->Bool} {meths:List String} {st:Bool} {sft:Nat->Nat} {main:Bool} {Stop:Goroutine->World->Prop} {b:Frame} {a:Act} {k:List Item} {cs:List Frame} {w:World} {ops:Array Oper} {i:Nat} {rest:List Nat} {o:Oper}
def Liv (P:Program)(main:Bool)(st:Bool)(sft:Nat->Nat)(Stop:Goroutine->World->Prop)(g:Goroutine)(w:World):Prop:=∀ d,Must P main (DL st sft) Stop g (w.at d)
theorem b0c {g:Goroutine}(h:Liv P main st sft Stop g w):Must P main (DL st sft) Stop g w:=h w.drawn
theorem c0J {g:Goroutine}{Stop':Goroutine->World->Prop}(h:∀ d,Must P main (DL st sft) Stop' g (w.at d))(hn:∀ g' w',Stop' g' w'->Liv P main st sft Stop g' w'):Liv P main st sft Stop g w :=
 λd=>(h d).then λg' w' hs=>b0c (hn g' w' hs)
theorem b9j (w:World):DL st sft w w #[]:=⟨.refl _ _,λe he=>by simp at he,rfl⟩
theorem S9 {g g':Goroutine}(hr:g.status=.running)(h:∀ u,stepG P main g u=.go g' u #[])(hn:Liv P main st sft Stop g' w):Liv P main st sft Stop g w:=λd =>
 .step (λ_=>g') (λd'=>w.at d') (λ_=>#[]) hr (λd'=>h _) (λd'=>b9j _) (λd'=>hn d')
theorem l9 (h:Liv P main st sft Stop (G (b.at a k) cs) w):Liv P main st sft Stop (G (b.at a (.code .skip::k)) cs) w:=S9 rfl (λ_=>stepG_skip) h
theorem U3 {id:Nat}(h:Liv P main st sft Stop (G (b.at a k) cs) w):Liv P main st sft Stop (G (b.at a (.inBlock id::k)) cs) w:=S9 rfl (λ_=>stepG_inBlock) h
theorem b8 {x y:Code}(h:Liv P main st sft Stop (G (b.at a (.code x::.code y::k)) cs) w):Liv P main st sft Stop (G (b.at a (.code (.seq x y)::k)) cs) w:=S9 rfl (λ_=>stepG_seq) h
theorem t7 {c:Operand}{x y:Code}{t:Bool}(hc:a.eval c=.bool t)(h:Liv P main st sft Stop (G (b.at a (.code (if t then x else y)::k)) cs) w):Liv P main st sft Stop (G (b.at a (.code (.cond c x y)::k)) cs) w:=S9 rfl (λ_=>stepG_cond hc) h
theorem N7 {id:Nat}{c:Code}(h:Liv P main st sft Stop (G (b.at a (.code c::.inBlock id::k)) cs) w):Liv P main st sft Stop (G (b.at a (.code (.block id c)::k)) cs) w:=S9 rfl (λ_=>stepG_block) h
theorem a2m {c:Code}(h:Liv P main st sft Stop (G (b.at a (.code c::.inLoop c::k)) cs) w):Liv P main st sft Stop (G (b.at a (.code (.loop c)::k)) cs) w:=S9 rfl (λ_=>stepG_loop) h
theorem X3 {c:Code}(h:Liv P main st sft Stop (G (b.at a (.code c::.inLoop c::k)) cs) w):Liv P main st sft Stop (G (b.at a (.inLoop c::k)) cs) w:=S9 rfl (λ_=>stepG_inLoop) h
theorem a0e {id:Nat}{k':List Item}(hk:exitTo id k=some k')(h:Liv P main st sft Stop (G (b.at a k') cs) w):Liv P main st sft Stop (G (b.at a (.code (.exit id)::k)) cs) w:=S9 rfl (λ_=>stepG_exit hk) h
theorem q8 (h:Liv P main st sft Stop (G { b.at a (.code .ret::k) with mode:=.returning } cs) w):Liv P main st sft Stop (G (b.at a (.code .ret::k)) cs) w:=S9 rfl (λ_=>stepG_ret') h
theorem b9 {id:Nat}(h:Liv P main st sft Stop (G (b.at a (.inRegion ops (List.range ops.size)::k)) cs) w):Liv P main st sft Stop (G (b.at a (.code (.region id ops false)::k)) cs) w:=S9 rfl (λ_=>stepG_region) h
theorem a9 (h:Liv P main st sft Stop (G (b.at a k) cs) w):Liv P main st sft Stop (G (b.at a (.inRegion ops [] :: k)) cs) w:=S9 rfl (λ_=>stepG_region_end) h
theorem a4b (ho:ops[i]?=some o)(hw:Region.wanted o (yielded ops a.tmps)=false)(h:Liv P main st sft Stop (G (b.at (a.put o.dst undef) (.inRegion ops rest::k)) cs) w):Liv P main st sft Stop (G (b.at a (.inRegion ops (i::rest)::k)) cs) w:=S9 rfl (λ_=>stepG_unwanted ho hw) h
theorem b0d {f:FuncId}{fn:Func}{c:Code}{args:Array Operand}{ats:Array TypeId}(ho:ops[i]?=some o)(hw:Region.wanted o (yielded ops a.tmps)=true)(hk:b.kind≠.early)(hop:o.op=.call { callee:=.value (.func f),args,argTypes:=ats })
  (hf:P.funcs[f]?=some fn)(hname:(fn.name == "runtime.NumGoroutine")=false)(hb:fn.body=some c)
  (h:Liv P main st sft Stop (G (Frame.enter P f (args.map a.eval) .normal) (b.at a (.inRegion ops (i::rest)::k)::cs)) w):Liv P main st sft Stop (G (b.at a (.inRegion ops (i::rest)::k)) cs) w:=by
 refine S9 rfl (λu=>?_) h;have hb':fn.body.isNone=false:=by rw [hb];rfl
 rw [stepG_enter ho hw hk (run_call_body hop hf hname hb')];have:listed P b.fn a o u=#[]:=by unfold listed;rw [events_call_body hop hf hname hb'];exact seen_none P _
 rw [this]
theorem m8 {fn:Func}{todo:List Item}{c:Frame}{v:Value}(hn:b.kind=.normal)(hd:a.defers=[])(hf:P.funcs[b.fn]?=some fn)(hr:ResultsC P fn a.tmps v)
  (h:Liv P main st sft Stop (G (c.finish v) cs) w):Liv P main st sft Stop (G { b.at a todo with mode:=.returning } (c::cs)) w :=
 S9 rfl (λu=>stepG_leave hn hd hf (hr u).1 (hr u).2) h
theorem b2T {α:Type}(p:Program)(e:Sem α)(W:Prop)(Φ:α->Prop):∀ (w:World) (es:Array Event),E6 p False Φ e ->
  w.heap.size<=(e.runT p w es).1.world.heap.size/\a0p sft W (e.runT p w es).1.world.heap.size es (e.runT p w es).2:=by
 have aft:∀ {n m:Nat} {es es1 es2:Array Event},a0p sft W n es es1->n<=m/\a0p sft W m es1 es2->n<=m/\a0p sft W m es es2:=λh h'=>⟨h'.1,h.trans h'.2 h'.1⟩
 induction e with
 | pure a=>intro w es h;exact ⟨Nat.le_refl _,.refl _ _ _ _⟩
 | load m a k ih =>
  intro w es h;simp only [Sem.runT];split
  ·rename_i hc;exact aft (.pushC (cell_lt hc) (by simp)) (ih _ w _ (h _))
  ·split
   ·rename_i v t hs;refine aft (λx hx=>?_) (ih _ w _ (h _));rcases Array.mem_append.1 hx with hx|hx
    ·exact .inl hx
    ·obtain ⟨y,hy,rfl⟩:=Array.mem_map.1 hx;exact .inr ⟨b1d hs y (List.mem_toArray.1 hy),by simp⟩
   ·exact ⟨Nat.le_refl _,.refl _ _ _ _⟩
 | store m a x k ih=>intro w es h;exact h.1.elim
 | new o k ih =>
  intro w es h;simp only [Sem.runT];have:=ih _ { w with heap:=w.heap.push o } es (h.2 w.heap.size);exact ⟨Nat.le_trans (by simp) this.1,this.2⟩
 | shape r k ih=>intro w es h;simp only [Sem.runT];exact ih _ _ _ (h _)
 | freeze a n k ih=>intro w es h;exact h.elim
 | frozen a k ih=>intro w es h;simp only [Sem.runT];exact ih _ _ _ (U1 (h _))
 | getObj r k ih =>
  intro w es h;simp only [Sem.runT];split
  ·exact ⟨Nat.le_refl _,.refl _ _ _ _⟩
  ·rename_i hr;exact aft (.pushO (Array.getElem?_eq_some_iff.1 hr).1) (ih _ w _ (h.1 _))
  ·exact ⟨Nat.le_refl _,.refl _ _ _ _⟩
 | setObj r o k ih=>intro w es h;exact h.elim
 | choose q k ih =>
  intro w es h;simp only [Sem.runT];split
  ·exact ih _ _ _ (h _)
  ·exact ih _ { w with drawn:=w.drawn+1 } _ (h _)
 | sys c k ih=>intro w es h;exact h.elim
 | program k ih=>intro w es h;simp only [Sem.runT];exact ih _ _ _ h
 | mark m k ih=>intro w es h;simp only [Sem.runT];exact aft (.pushM h.1) (ih w _ h.2.2)
 | halt x=>intro w es h;exact ⟨Nat.le_refl _,.refl _ _ _ _⟩
theorem a3q {u u':World}{x:Next}(hop:Y6 P (λ_=>false) [] false o.op=true)(_:Clear u)(hr:(execOp a.eval o).run P u=.ok x u'):∀ e∈listed P b.fn a o u,Off sft (st=true) u'.heap.size e:=by
 intro e he;have ht:E6 P (false=true) (a0y (λf=>(λ_=>false:FuncId->Bool) f=true)) (execOp a.eval o):=a7k (P:=P) (S:=λ_=>false) (meths:=[]) (st:=false) id (λf hf=>by cases hf) (λm hm=>by cases hm) (λv=>rfl) (λf=>rfl) o hop;rw [show (false=true)=False by simp] at ht;have key:=(b2T (sft:=sft) P (execOp a.eval o) (st=true) _ u #[] ht).2;have he':e∈((execOp a.eval o).runT P u #[]).2:=a2G he;have hr':((execOp a.eval o).runT P u #[]).1=.ok x u':=by rw [Sem.runT_fst];exact hr
 rw [hr'] at key;rcases key e he' with h|h
 ·simp at h
 ·exact h
theorem c0K {x:Value}(ho:ops[i]?=some o)(hw:Region.wanted o (yielded ops a.tmps)=true)(hk:b.kind≠.early)(hop:Y6 P (λ_=>false) [] false o.op=true)(hc:Clear w)(hr:∀ d,(execOp a.eval o).run P (w.at d)=.ok (.value x) (w.at d))
  (h:Liv P main st sft Stop (G (b.at (a.put o.dst x) (.inRegion ops rest::k)) cs) w):Liv P main st sft Stop (G (b.at a (.inRegion ops (i::rest)::k)) cs) w:=λd =>
 .step (λ_=>G (b.at (a.put o.dst x) (.inRegion ops rest::k)) cs) (λd'=>w.at d') (λd'=>listed P b.fn a o (w.at d')) rfl (λd'=>stepG_value ho hw hk (hr d'))
  (λd'=>⟨.refl _ _,a3q hop (u:=w.at d') hc (hr d'),rfl⟩) (λd'=>h d')
theorem t8 (ho:ops[i]?=some o)(hw:Region.wanted o (yielded ops a.tmps)=true)(hk:b.kind≠.early)
  (h:∀ (d:Nat) (K':Act->World->Prop),(∀ a' w',DL st sft (w.at d) w' (listed P b.fn a o (w.at d))/\Must P main (DL st sft) Stop (G (b.at a' (.inRegion ops rest::k)) cs) w'->K' a' w')->uponK o a K' ((execOp a.eval o).run P (w.at d)))(d0:Nat) :
  Must P main (DL st sft) Stop (G (b.at a (.inRegion ops (i::rest)::k)) cs) (w.at d0):=by
 have key:∀ d,∃ g' w' es,stepG P main (G (b.at a (.inRegion ops (i::rest)::k)) cs) (w.at d)=.go g' w' es/\DL st sft (w.at d) w' es/\Must P main (DL st sft) Stop g' w':=by
  intro d;have:=h d (λa' w'=>DL st sft (w.at d) w' (listed P b.fn a o (w.at d))/\Must P main (DL st sft) Stop (G (b.at a' (.inRegion ops rest::k)) cs) w') (λ_ _ x=>x);revert this;generalize hr:(execOp a.eval o).run P (w.at d)=r
  cases r with
  | ok x w' =>
   cases x with
   | value v=>exact λh=>⟨_,_,_,stepG_value ho hw hk hr,h.1,h.2⟩
   | skip=>exact λh=>⟨_,_,_,stepG_none ho hw hk hr,h.1,h.2⟩
   | _=>exact λh=>h.elim
  | halt _ _=>exact λh=>h.elim
 exact .step (λd=>(key d).choose) (λd=>(key d).choose_spec.choose) (λd=>(key d).choose_spec.choose_spec.choose) rfl (λd=>(key d).choose_spec.choose_spec.choose_spec.1) (λd=>(key d).choose_spec.choose_spec.choose_spec.2.1) (λd=>(key d).choose_spec.choose_spec.choose_spec.2.2)
theorem a4X (ho:ops[i]?=some o)(hw:Region.wanted o (yielded ops a.tmps)=true)(hk:b.kind≠.early)(hop:Y6 P (λ_=>false) [] false o.op=true)(hc:Clear w)
  (h:∀ (d:Nat) (K':Act->World->Prop),(∀ a' w',w'=w.at d/\Must P main (DL st sft) Stop (G (b.at a' (.inRegion ops rest::k)) cs) (w.at d)->K' a' w')->uponK o a K' ((execOp a.eval o).run P (w.at d)))(d0:Nat) :
  Must P main (DL st sft) Stop (G (b.at a (.inRegion ops (i::rest)::k)) cs) (w.at d0):=by
 refine t8 ho hw hk (λd K' hK=>?_) d0;have:=h d (λa' w'=>w'=w.at d/\Must P main (DL st sft) Stop (G (b.at a' (.inRegion ops rest::k)) cs) (w.at d)) (λ_ _ x=>x);revert this;generalize hr:(execOp a.eval o).run P (w.at d)=r
 cases r with
 | ok x w' =>
  cases x with
  | value v =>
   rintro ⟨rfl,hm⟩;exact hK _ _ ⟨⟨.refl _ _,a3q hop (u:=w.at d) hc hr,rfl⟩,hm⟩
  | skip =>
   rintro ⟨rfl,hm⟩;exact hK _ _ ⟨⟨.refl _ _,a3q hop (u:=w.at d) hc hr,rfl⟩,hm⟩
  | _=>exact λh=>h.elim
 | halt _ _=>exact λh=>h.elim
theorem Q7 {u:World}{ad:Addr}{x:Value}{es:Array Event}(hs:sft ad.block<=ad.off)(hlt:ad.block<u.heap.size)(he:∀ e∈es,e=⟨.cell ad,true,false⟩):DL true sft u (u.setCell ad x) es:=by
 refine ⟨⟨λj o' ho'=>?_,by simp [World.setCell],λj o' hj ho'=>?_⟩,λe h=>?_,rfl⟩
 ·rw [heap_setCell];split
  ·rename_i e;rw [ho',Option.map_some];refine ⟨_,rfl,?_⟩
   cases o' with
   | cells c t f =>
    refine ⟨_,rfl,?_,λj' hj=>?_⟩
    ·split<;>simp
    ·split
     ·rfl
     ·rw [Array.getElem?_setIfInBounds_ne];subst e;omega
   | _=>exact rfl
  ·exact ⟨o',ho',.refl _ _⟩
 ·have:=(Array.getElem?_eq_some_iff.1 ho').1;simp [World.setCell] at this;omega
 ·rw [he e h];exact ⟨by simpa [World.setCell] using hlt,λ_=>⟨hs,rfl⟩⟩
theorem L7 {u:World}{x:Go.Obj}{es:Array Event}(he:∀ e∈es,False)(hx:Obj.sight x:=by trivial):DL st sft u (u.alloc x) es:=by
 refine ⟨⟨λj o' ho'=>⟨o',?_,.refl _ _⟩,by simp,λj o' hj ho'=>?_⟩,λe h=>(he e h).elim,rfl⟩
 ·have hlt:=(Array.getElem?_eq_some_iff.1 ho').1;show (u.heap.push x)[j]?=_;rw [Array.getElem?_push,if_neg (by omega)];exact ho'
 ·have ho':(u.heap.push x)[j]?=some o':=ho';rw [Array.getElem?_push] at ho';split at ho'
  ·obtain rfl:=Option.some.inj ho';exact hx
  ·have:=(Array.getElem?_eq_some_iff.1 ho').1;omega
theorem mc {g g':Goroutine}(hr:g.status=.running)(h:∀ u,stepG P main g u=.go g' u #[])(hn:∀ d,Must P main (DL st sft) Stop g' (w.at d))(d0:Nat):Must P main (DL st sft) Stop g (w.at d0):=S9 hr h hn d0
theorem mo (ho:ops[i]?=some o) (hw:Region.wanted o (yielded ops a.tmps)=true)
  (h:∀ (d:Nat) (K':Act->World->Prop),(∀ a' w',w'=w.at d/\Must P main (DL st sft) Stop (G (b.at a' (.inRegion ops rest::k)) cs) (w.at d)->K' a' w')->uponK o a K' ((execOp a.eval o).run P (w.at d))) {d0:Nat} (hk:b.kind≠.early:=by decide) (hop:Y6 P (λ_=>false) [] false o.op=true:=by kernel_rfl):
  Must P main (DL st sft) Stop (G (b.at a (.inRegion ops (i::rest)::k)) cs) (w.at d0):=a4X ho hw hk hop trivial h d0
def ix {α:Type}:List α->Nat->List Nat
 | [],_=>[]
 | _::l,n=>n::ix l (n+1)
theorem b2U {α:Type}:∀ (l:List α) (n:Nat),ix l n=List.range' n l.length
 | [],_=>rfl
 | _::l,n=>by simp only [ix,List.length_cons,List.range'_succ];rw [b2U l (n+1)]
theorem rz {α:Type} (l:List α):List.range l.toArray.size=ix l 0:=by rw [b2U,List.size_toArray,List.range_eq_range']
end Go.Proofs.YtcgabodkegcpgaaDoor.Br
