/- The bridge, third stone: a step of code of the set S in the frozen world is the same step in the real one, whoever has called, and whatever else the tape holds. -/
import Derived.Test.YtcgabodkegcpgaaDoorTac
import Derived.Conc.Machine
set_option linter.unusedVariables false
set_option linter.unusedSimpArgs false
set_option maxHeartbeats 20000000
set_option maxRecDepth 100000
namespace Go.Proofs.YtcgabodkegcpgaaDoor.Br
variable {P:Program} {S:FuncId->Bool} {meths:List String} {st:Bool} {sft:Nat->Nat}
open Go.Conc (G)
theorem a5f (fn:Func)(tmps:Array Value):TT P (st=true) (results fn tmps):=by
 unfold results;refine p8 (b8o _ (λr=>?_) _) λ_=>trivial;split
 ·exact trivial
 ·exact p8 (p5 _) λ_=>k9 _ _
theorem a1e (fr:Frame):fr.app []=fr:=by cases fr;simp [Frame.app]
theorem b0L (fr:Frame)(k:List Item):(fr.app k).eval=fr.eval:=by funext x;cases x<;>rfl
theorem a2V (fr:Frame)(k:List Item)(ch:List PanicEntry):(fr.app k).raise ch=(fr.raise ch).app k:=by
 cases fr with|mk a b c d m e f=>cases m<;>rfl
def b9O (fr:Frame):Prop:=∃ ops i rest t,fr.todo=.inRegion ops (i::rest)::t
theorem Y5 {fr:Frame}(h:b9O fr)(k:List Item)(x:Value):(fr.app k).finish x=(fr.finish x).app k:=by
 obtain ⟨ops,i,rest,t,h⟩:=h
 cases fr with
 | mk a b c d m e f =>
  obtain rfl:c=_:=h;rfl
theorem a1P {id:Nat}:∀ {k k':List Item},(∀ x∈k,a1n P S meths st x)->exitTo id k=some k'->∀ x∈k',a1n P S meths st x
 | [],_,_,h=>by cases h
 | y::k,k',hk,h=>by
  have hk':∀ x∈k,a1n P S meths st x:=λx hx=>hk x (List.mem_cons_of_mem _ hx)
  cases y with
  | inBlock id' =>
   unfold exitTo at h;split at h
   ·obtain rfl:=Option.some.inj h;exact hk'
   ·exact a1P hk' h
  | _=>exact a1P hk' h
theorem a1Q {id:Nat}{kk:List Item}:∀ {k k':List Item},exitTo id k=some k'->exitTo id (k ++ kk)=some (k' ++ kk)
 | [],_,h=>by cases h
 | y::k,k',h=>by
  cases y with
  | inBlock id' =>
   unfold exitTo at h;simp only [List.cons_append,exitTo];split at h
   ·rename_i e;obtain rfl:=Option.some.inj h;simp only [e,if_true]
   ·rename_i e;simp only [e,if_false];exact a1Q h
  | _=>exact a1Q (k:=k) h
theorem a2C {id:Nat}{kk:List Item}(hk:exitTo id kk=none):∀ {k:List Item},exitTo id k=none->exitTo id (k ++ kk)=none
 | [],_=>hk
 | y::k,h=>by
  cases y with
  | inBlock id' =>
   unfold exitTo at h;simp only [List.cons_append,exitTo];split at h
   ·cases h
   ·rename_i e;simp only [e,if_false];exact a2C hk h
  | _=>exact a2C hk (k:=k) h
def c0g (P:Program)(S:FuncId->Bool)(meths:List String)(st:Bool)(sft:Nat->Nat)(fr:Frame)(kk kk':List Item)(cs cs':List Frame)(v w:World)(s s':GStep):Prop :=
 ∃ fr' v' w' es,Both st sft v v' w w' es/\OkF P S meths st fr' /\
  ((s'=.go (G (fr'.app kk') cs') v' es/\s=.go (G (fr'.app kk) cs) w' es)\/(b9O fr/\s'=.go (G fr' (fr.app kk'::cs')) v' es/\s=.go (G fr' (fr.app kk::cs)) w' es))
theorem W4 {fr:Frame}{kk kk':List Item}{cs cs':List Frame}{v w:World}(hl:Lk sft v w){s s':GStep}{fr':Frame}(hF':OkF P S meths st fr')(h:s=.go (G (fr'.app kk) cs) w #[])(h':s'=.go (G (fr'.app kk') cs') v #[]) :
  (∃ o v' es,s'=.ended o v' es)\/c0g P S meths st sft fr kk kk' cs cs' v w s s' :=
 .inr ⟨fr',v,w,#[],.still hl,hF',.inl ⟨h',h⟩⟩
theorem b3a (R:Rules P S meths st){fr:Frame}(hF:OkF P S meths st fr){kk kk':List Item}{cs cs':List Frame}(hm:fr.mode=.run)(hne:fr.todo≠[]\/kk=[]/\kk'=[])(hkk':∀ id,exitTo id kk'=none){v w:World}(hl:Lk sft v w){N:Nat}(hw:Win N v w){main main':Bool}
  (hN:(stepG P main (G (fr.app kk) cs) w).wd<=w.drawn+N) :
  (∃ o v' es,stepG P main' (G (fr.app kk') cs') v=.ended o v' es)\/c0g P S meths st sft fr kk kk' cs cs' v w (stepG P main (G (fr.app kk) cs) w) (stepG P main' (G (fr.app kk') cs') v):=by
 have hF0:=hF;obtain ⟨f,tmps,todo,defers,mode,kind,round⟩:=fr;obtain ⟨hkind,hround,hdefers,⟨fn,hfn⟩,htodo⟩:=hF;dsimp only at hkind hround hdefers hfn htodo hm hne;subst hkind hround hdefers hm
 cases todo with
 | nil =>
  obtain ⟨rfl,rfl⟩:kk=[]/\kk'=[]:=hne.elim (λh=>absurd rfl h) id;exact W4 hl (fr':={ fn:=f,tmps,todo:=[],defers:=[],mode:=.returning,kind:=.normal }) ⟨rfl,rfl,rfl,⟨fn,hfn⟩,htodo⟩ rfl rfl
 | cons x k =>
  have hx:=htodo x (List.mem_cons_self ..);have hk:∀ y∈k,a1n P S meths st y:=λy hy=>htodo y (List.mem_cons_of_mem _ hy);have mk:∀ {todo':List Item},(∀ y∈todo',a1n P S meths st y)->OkF P S meths st { fn:=f,tmps,todo:=todo',defers:=[],mode:=.run,kind:=.normal }:=λh=>⟨rfl,rfl,rfl,⟨fn,hfn⟩,h⟩
  cases x with
  | code c =>
   cases c with
   | skip=>exact W4 hl (mk hk) rfl rfl
   | label l=>exact W4 hl (mk hk) rfl rfl
   | ret=>exact W4 hl (fr':={ fn:=f,tmps,todo:=.code .ret::k,defers:=[],mode:=.returning,kind:=.normal }) ⟨rfl,rfl,rfl,⟨fn,hfn⟩,htodo⟩ rfl rfl
   | seq a b =>
    have hab:O3 P S meths st a=true/\O3 P S meths st b=true:=by simpa [a1n,O3] using hx
    refine W4 hl (mk (todo':=.code a::.code b::k) λy hy=>?_) rfl rfl;rcases List.mem_cons.1 hy with rfl|hy
    ·exact hab.1
    ·rcases List.mem_cons.1 hy with rfl|hy
     ·exact hab.2
     ·exact hk y hy
   | block id a =>
    refine W4 hl (mk (todo':=.code a::.inBlock id::k) λy hy=>?_) rfl rfl;rcases List.mem_cons.1 hy with rfl|hy
    ·exact hx
    ·rcases List.mem_cons.1 hy with rfl|hy
     ·exact trivial
     ·exact hk y hy
   | loop a =>
    refine W4 hl (mk (todo':=.code a::.inLoop a::k) λy hy=>?_) rfl rfl;rcases List.mem_cons.1 hy with rfl|hy
    ·exact hx
    ·rcases List.mem_cons.1 hy with rfl|hy
     ·exact hx
     ·exact hk y hy
   | cond c a b =>
    have hab:O3 P S meths st a=true/\O3 P S meths st b=true:=by simpa [a1n,O3] using hx
    cases e:Frame.eval { fn:=f,tmps,todo:=.code (.cond c a b)::k,defers:=[],mode:=.run,kind:=.normal } c with
    | bool t =>
     refine W4 hl (mk (todo':=.code (if t then a else b)::k) λy hy=>?_) (by
      have e':Frame.eval { fn:=f,tmps,todo:=.code (.cond c a b)::(k ++ kk),defers:=[],mode:=.run,kind:=.normal } c=.bool t:=e;simp only [stepG,G,stepG.exec,Frame.app,List.cons_append,e']) (by
      have e':Frame.eval { fn:=f,tmps,todo:=.code (.cond c a b)::(k ++ kk'),defers:=[],mode:=.run,kind:=.normal } c=.bool t:=e
      simp only [stepG,G,stepG.exec,Frame.app,List.cons_append,e'])
     rcases List.mem_cons.1 hy with rfl|hy
     ·cases t
      ·exact hab.2
      ·exact hab.1
     ·exact hk y hy
    | _ =>
     refine .inl ⟨.stuck "cond: bool expected" (Frame.pos P (Frame.app { fn:=f,tmps,todo:=.code (.cond c a b)::k,defers:=[],mode:=.run,kind:=.normal } kk')),v,#[],?_⟩;have e':=(congrFun (b0L { fn:=f,tmps,todo:=.code (.cond c a b)::k,defers:=[],mode:=.run,kind:=.normal } kk') c).trans e;simp only [Frame.app,List.cons_append] at e';simp only [stepG,G,stepG.exec,Frame.app,List.cons_append,e']
   | exit id =>
    cases e:exitTo id k with
    | none=>exact .inl ⟨_,_,_,by simp only [stepG,G,stepG.exec,Frame.app,List.cons_append,a2C (hkk' id) e,Option.elim_none];rfl⟩
    | some k'=>exact W4 hl (mk (a1P hk e)) (by simp only [stepG,G,stepG.exec,Frame.app,List.cons_append,a1Q e,Option.elim_some]) (by simp only [stepG,G,stepG.exec,Frame.app,List.cons_append,a1Q e,Option.elim_some])
   | region id ops draw =>
    have hops:∀ l,∀ y∈Item.inRegion ops l::k,a1n P S meths st y:=λl y hy=>by
     rcases List.mem_cons.1 hy with rfl|hy
     ·exact hx
     ·exact hk y hy
    cases draw with
    | false=>exact W4 hl (mk (hops _)) rfl rfl
    | true =>
     have e1:∀ (m:Bool) (cs:List Frame) (u:World) (k:List Item),stepG P m (G { fn:=f,tmps,todo:=.code (.region id ops true)::k,defers:=[],mode:=.run,kind:=.normal } cs) u =
       .go (G { fn:=f,tmps,todo:=.inRegion ops (Region.schedule (P.follows .mixedOrders) ops (u.tape u.drawn (.order f id)))::k,defers:=[],mode:=.run,kind:=.normal } cs) { u with drawn:=u.drawn+1 } #[]:=λm cs u k=>rfl
     have e2:stepG P main (G (Frame.app { fn:=f,tmps,todo:=.code (.region id ops true)::k,defers:=[],mode:=.run,kind:=.normal } kk) cs) w=_:=e1 main cs w (k ++ kk);rw [e2] at hN;have hN1:0<N:=by
      have:w.drawn+1<=w.drawn+N:=hN;omega
     have et:v.tape v.drawn (.order f id)=w.tape w.drawn (.order f id):=hw 0 _ hN1;exact .inr ⟨_,{ v with drawn:=v.drawn+1 },{ w with drawn:=w.drawn+1 },#[],⟨⟨hl.heap,hl.soft,hl.sight,hl.os,hl.output⟩,(.of_heap _ rfl),λe he=>by simp at he,1,⟨rfl,rfl,rfl,rfl,rfl,rfl⟩⟩,mk (hops _),.inl ⟨e1 main' cs' v (k ++ kk'),by rw [e2,et];rfl⟩⟩
   | rangeFunc a b c d=>cases hx
   | scope a=>cases hx
   | goto l=>cases hx
   | refuse m=>cases hx
  | inBlock id=>exact W4 hl (mk hk) rfl rfl
  | inLoop a =>
   refine W4 hl (mk (todo':=.code a::.inLoop a::k) λy hy=>?_) rfl rfl;rcases List.mem_cons.1 hy with rfl|hy
   ·exact hx
   ·rcases List.mem_cons.1 hy with rfl|hy
    ·exact hx
    ·exact hk y hy
  | inRegion ops l =>
   cases l with
   | nil=>exact W4 hl (mk hk) rfl rfl
   | cons i l =>
    cases e:((ops[i]?).map (Region.wanted · (yielded ops tmps))).getD false with
    | false =>
     refine W4 hl (fr':=Frame.finish { fn:=f,tmps,todo:=.inRegion ops (i::l)::k,defers:=[],mode:=.run,kind:=.normal } undef) (hF0.finish _) ?_ ?_
     ·rw [← Y5 ⟨_,_,_,_,rfl⟩];simp only [stepG,G,stepG.exec,Frame.app,List.cons_append,e,Bool.false_eq_true,if_false]
     ·rw [← Y5 ⟨_,_,_,_,rfl⟩];simp only [stepG,G,stepG.exec,Frame.app,List.cons_append,e,Bool.false_eq_true,if_false]
    | true =>
     cases ho:ops[i]? with
     | none=>rw [ho] at e;cases e
     | some o =>
      have e1:∀ (m:Bool) (cs:List Frame) (u:World) (k:List Item),stepG P m (G { fn:=f,tmps,todo:=.inRegion ops (i::l)::k,defers:=[],mode:=.run,kind:=.normal } cs) u =
        stepG.apply P true { fn:=f,tmps,todo:=.inRegion ops (i::l)::k,defers:=[],mode:=.run,kind:=.normal } cs none (execOp (Frame.eval { fn:=f,tmps,todo:=.inRegion ops (i::l)::k,defers:=[],mode:=.run,kind:=.normal }) o) u:=λm cs u k=>by
       have e':=e;rw [ho] at e';simp only [stepG,G,stepG.exec,stepG.oper,Frame.oper?,ho,e',if_true]
      have e2:∀ (m:Bool) (cs:List Frame) (u:World) (kk:List Item),stepG P m (G (Frame.app { fn:=f,tmps,todo:=.inRegion ops (i::l)::k,defers:=[],mode:=.run,kind:=.normal } kk) cs) u =
        stepG.apply P true (Frame.app { fn:=f,tmps,todo:=.inRegion ops (i::l)::k,defers:=[],mode:=.run,kind:=.normal } kk) cs none (execOp (Frame.eval { fn:=f,tmps,todo:=.inRegion ops (i::l)::k,defers:=[],mode:=.run,kind:=.normal }) o) u:=λm cs u kk=>by
       rw [← b0L _ kk];exact e1 m cs u (k ++ kk)
      rw [e2] at hN;have hop:Y6 P S meths st o.op=true:=by
       have:ops.all (λo=>Y6 P S meths st o.op)=true:=hx;rw [Array.all_eq_true_iff_forall_mem] at this;exact this o (Array.mem_of_getElem? ho)
      have ht:=a7k (P:=P) (st:=st) id R.call R.meth (ρ:=Frame.eval { fn:=f,tmps,todo:=.inRegion ops (i::l)::k,defers:=[],mode:=.run,kind:=.normal }) (λ_=>rfl) (λ_=>rfl) o hop;have hs:b9O { fn:=f,tmps,todo:=.inRegion ops (i::l)::k,defers:=[],mode:=.run,kind:=.normal }:=⟨_,_,_,_,rfl⟩;rw [e2,e2];rcases b5p (cs:=cs) (cs':=cs') (kk:=kk) (kk':=kk') hF0 ht hl hw hN rfl with ⟨a,b,c,h⟩|⟨v',w',es,hb,⟨x,h1,h2⟩|⟨g,args,hg,h1,h2⟩|⟨ch,h1,h2⟩⟩
      ·exact .inl ⟨a,b,c,h⟩
      ·exact .inr ⟨_,v',w',es,hb,hF0.finish x,.inl ⟨by rw [h1,Y5 hs],by rw [h2,Y5 hs]⟩⟩
      ·exact .inr ⟨_,v',w',es,hb,.enter R hg args,.inr ⟨hs,h1,h2⟩⟩
      ·exact .inr ⟨_,v',w',es,hb,hF0.raise ch,.inl ⟨by rw [h1,a2V],by rw [h2,a2V]⟩⟩
  | _=>exact hx.elim
structure OkL (P:Program) (fr:Frame):Prop where
 kind:fr.kind=.normal
 round:fr.roundOf=none
 defers:fr.defers=[]
 fn:∃ fn,P.funcs[fr.fn]?=some fn
theorem OkF.leaves {fr:Frame}(h:OkF P S meths st fr):OkL P fr:=⟨h.kind,h.round,h.defers,h.fn⟩
theorem OkL.app {fr:Frame}(h:OkL P fr)(k:List Item):OkL P (fr.app k):=⟨h.kind,h.round,h.defers,h.fn⟩
theorem a5J {fr:Frame}(hF:OkL P fr)(hm:fr.mode≠.run){c c':Frame}{cs cs':List Frame}{v w:World}(hl:Lk sft v w){N:Nat}(hw:Win N v w){main main':Bool}
    (hN:(stepG P main (G fr (c::cs)) w).wd<=w.drawn+N) :
    (∃ o v' es,stepG P main' (G fr (c'::cs')) v=.ended o v' es)\/∃ v' w' es,Both st sft v v' w w' es /\
      ((∃ x,stepG P main' (G fr (c'::cs')) v=.go (G (c'.finish x) cs') v' es/\stepG P main (G fr (c::cs)) w=.go (G (c.finish x) cs) w' es) \/
       (∃ ch,stepG P main' (G fr (c'::cs')) v=.go (G (c'.raise ch) cs') v' es/\stepG P main (G fr (c::cs)) w=.go (G (c.raise ch) cs) w' es)):=by
  obtain ⟨f,tmps,todo,defers,mode,kind,round⟩:=fr;obtain ⟨hkind,hround,hdefers,⟨fn,hfn⟩⟩:=hF;dsimp only at hkind hround hdefers hfn hm;subst hkind hround hdefers
  cases mode with
  | run=>exact absurd rfl hm
  | panicking ch =>
    have e1:∀ (m:Bool) (c:Frame) (cs:List Frame) (u:World),stepG P m (G { fn:=f,tmps,todo:=todo,defers:=[],mode:=.panicking ch,kind:=.normal } (c::cs)) u=.go (G (c.raise ch) cs) u #[]:=λm c cs u=>by
      simp [stepG,G,unwind,Frame.catches,hfn]
    exact .inr ⟨v,w,#[],.still hl,.inr ⟨ch,e1 _ _ _ _,e1 _ _ _ _⟩⟩
  | returning =>
    have e1:∀ (m:Bool) (c:Frame) (cs:List Frame) (u:World),stepG P m (G { fn:=f,tmps,todo:=todo,defers:=[],mode:=.returning,kind:=.normal } (c::cs)) u =
        GStep.after (seen P f ((results fn tmps).runT P u #[]).2) (match ((results fn tmps).runT P u #[]).1 with
          | .ok v w=>.go (G (c.finish v) cs) w
          | .halt (.stuck s) w=>.ended (.stuck s (Frame.pos P { fn:=f,tmps,todo:=todo,defers:=[],mode:=.returning,kind:=.normal })) w
          | .halt _ w=>.ended (.stuck "return: the result variables cannot be read" (Frame.pos P { fn:=f,tmps,todo:=todo,defers:=[],mode:=.returning,kind:=.normal })) w):=λm c cs u=>by
      simp only [stepG,G,unwind,hfn,doReturn];rcases (Sem.runT P (results fn tmps) u #[]) with ⟨r,es⟩
      cases r with
      | ok a b=>rfl
      | halt h b=>cases h<;>rfl
    have hs:=a5f (P:=P) (st:=st) fn tmps;rw [e1] at hN;have hNr:((results fn tmps).runT P w #[]).1.world.drawn<=w.drawn+N:=by
      revert hN;rw [a2F];rcases b6m P (results fn tmps) (st=true) _ w #[] hs with ⟨a,w',es',e,hp⟩|⟨x,w',es',e⟩|⟨x,w',es',e,hb⟩
      · rw [e];exact id
      · rw [e];exact id
      · rw [e];cases x<;>exact id
    have key:=b1f P (results fn tmps) (st=true) _ (v:=v) (w:=w) #[] N hs hl hw hNr;simp only [e1];revert key;generalize (results fn tmps).runT P v #[]=rv;generalize (results fn tmps).runT P w #[]=rw';intro key
    cases key with
    | @ok a v' w' es' n hp h1 h2 h3 h4 =>
      refine .inr ⟨v',w',seen P f es' ++ #[],⟨h1,h2,λe he=>?_,n,h4⟩,.inl ⟨a,rfl,rfl⟩⟩;rw [Array.append_empty] at he;rcases h3 e (a2G he) with h|h
      · simp at h
      · exact h
    | panic _ _ _ _=>exact .inl ⟨_,_,_,rfl⟩
    | @lost x v' es' r hb=>cases x<;>exact .inl ⟨_,_,_,rfl⟩
variable {P:Program} {S:FuncId->Bool} {meths:List String} {st:Bool} {sft:Nat->Nat}
open Go.Conc (G)
inductive Must (P:Program) (main:Bool) (D:World->World->Array Event->Prop) (Stop:Goroutine->World->Prop):Goroutine->World->Prop where
 | stop {g:Goroutine} {w:World}:Stop g w->Must P main D Stop g w
 | step {g:Goroutine} {w:World} (g':Nat->Goroutine) (w':Nat->World) (es:Nat->Array Event):g.status=.running->(∀ d,stepG P main g (w.at d)=.go (g' d) (w' d) (es d))->(∀ d,D (w.at d) (w' d) (es d)) ->
   (∀ d,Must P main D Stop (g' d) (w' d))->Must P main D Stop g w
def DL (st:Bool)(sft:Nat->Nat)(w w':World)(es:Array Event):Prop:=Kept sft w w'/\(∀ e∈es,Off sft (st=true) w'.heap.size e)/\(w'.tape,w'.os,w'.output)=(w.tape,w.os,w.output)
theorem Must.mono {main:Bool}{D D':World->World->Array Event->Prop}{Stop Stop':Goroutine->World->Prop}{g:Goroutine}{w:World}(h:Must P main D Stop g w)(hD:∀ w w' es,D w w' es->D' w w' es)(hS:∀ g w,Stop g w->Stop' g w):Must P main D' Stop' g w:=by
 induction h with
 | stop h=>exact .stop (hS _ _ h)
 | step g' w' es h1 h2 h3 _ ih=>exact .step g' w' es h1 h2 (λd=>hD _ _ _ (h3 d)) ih
theorem Must.then {main:Bool}{D:World->World->Array Event->Prop}{Stop Stop':Goroutine->World->Prop}{g:Goroutine}{w:World}(h:Must P main D Stop g w)(hS:∀ g w,Stop g w->Must P main D Stop' g w):Must P main D Stop' g w:=by
 induction h with
 | stop h=>exact hS _ _ h
 | step g' w' es h1 h2 h3 _ ih=>exact .step g' w' es h1 h2 h3 ih
theorem Must.keep {main:Bool}{Stop:Goroutine->World->Prop}{g:Goroutine}{w:World}(h:Must P main (DL st sft) Stop g w):Must P main (DL st sft) (λg' w'=>Stop g' w'/\Kept sft w w') g w:=by
 induction h with
 | stop h=>exact .stop ⟨h,.refl _ _⟩
 | @step g w g' w' es h1 h2 h3 _ ih =>
  refine .step g' w' es h1 h2 h3 λd=>(ih d).mono (λ_ _ _ x=>x) λg2 w2 x=>⟨x.1,?_⟩
  have hk:Kept sft w (w.at d):=.of_heap _ rfl;exact hk.trans ((h3 d).1.trans x.2)
def tl:List Frame->List Item->List Frame->List Frame
 | [],_,base=>base
 | [c],k,base=>c.app k::base
 | c::d::l,k,base=>c::tl (d::l) k base
def real (fr:Frame)(above:List Frame)(k:List Item)(base:List Frame):Goroutine :=
 match above with
 | []=>G (fr.app k) base
 | c::l=>G fr (tl (c::l) k base)
theorem a9g (fr:Frame)(above:List Frame)(k:List Item)(base:List Frame):(real fr above k base).status=.running:=by cases above<;>rfl
structure OkS (P:Program) (S:FuncId->Bool) (meths:List String) (st:Bool) (fr:Frame) (above:List Frame):Prop where
 top:OkF P S meths st fr
 rest:∀ c∈above,OkF P S meths st c/\b9O c
def c0h (fr:Frame)(above:List Frame)(k k0:List Item):Prop:=above=[]/\(fr.mode≠.run\/(fr.todo=[]/\¬ (k=[]/\k0=[])))
theorem b8f (R:Rules P S meths st){fr:Frame}{above:List Frame}(hO:OkS P S meths st fr above){k k0:List Item}{base base0:List Frame}(hk0:∀ id,exitTo id k0=none)(hr:¬ c0h fr above k k0){v w:World}(hl:Lk sft v w){N:Nat}(hw:Win N v w){main main':Bool}
  (hN:(stepG P main (real fr above k base) w).wd<=w.drawn+N) :
  (∃ o v' es,stepG P main' (real fr above k0 base0) v=.ended o v' es) \/
  ∃ fr' above' v' w' es,stepG P main' (real fr above k0 base0) v=.go (real fr' above' k0 base0) v' es/\stepG P main (real fr above k base) w=.go (real fr' above' k base) w' es/\Both st sft v v' w w' es/\OkS P S meths st fr' above':=by
 cases above with
 | nil =>
  have hm:fr.mode=.run:=Classical.byContradiction λh=>hr ⟨rfl,.inl h⟩;have hne:fr.todo≠[]\/k=[]/\k0=[]:=by
   by_cases h:fr.todo=[]
   ·exact .inr (Classical.byContradiction λh'=>hr ⟨rfl,.inr ⟨h,h'⟩⟩)
   ·exact .inl h
  rcases b3a (kk:=k) (kk':=k0) (cs:=base) (cs':=base0) (main:=main) (main':=main') R hO.top hm hne hk0 hl hw hN with h|⟨fr',v',w',es,hb,hF',⟨h1,h2⟩|⟨hs,h1,h2⟩⟩
  ·exact .inl h
  ·exact .inr ⟨fr',[],v',w',es,h1,h2,hb,hF',λc hc=>by cases hc⟩
  ·exact .inr ⟨fr',[fr],v',w',es,h1,h2,hb,hF',λc hc=>by
    rcases List.mem_cons.1 hc with rfl|hc
    ·exact ⟨hO.top,hs⟩
    ·cases hc⟩
 | cons c l =>
  obtain ⟨hc,hcs⟩:=hO.rest c (List.mem_cons_self ..)
  by_cases hm:fr.mode=.run
  ·have e:∀ k base,real fr (c::l) k base=G (fr.app []) (tl (c::l) k base):=λk base=>by rw [a1e];rfl
   rw [e] at hN;rw [e,e];rcases b3a (kk:=[]) (kk':=[]) (cs:=tl (c::l) k base) (cs':=tl (c::l) k0 base0) (main:=main) (main':=main') R hO.top hm (.inr ⟨rfl,rfl⟩) (λ_=>rfl) hl hw hN with h|⟨fr',v',w',es,hb,hF',⟨h1,h2⟩|⟨hs,h1,h2⟩⟩
   ·exact .inl h
   ·exact .inr ⟨fr',c::l,v',w',es,by rw [h1,a1e];rfl,by rw [h2,a1e];rfl,hb,hF',hO.rest⟩
   ·refine .inr ⟨fr',fr::c::l,v',w',es,by rw [h1,a1e];rfl,by rw [h2,a1e];rfl,hb,hF',λx hx=>?_⟩;rcases List.mem_cons.1 hx with rfl|hx
    ·exact ⟨hO.top,hs⟩
    ·exact hO.rest x hx
  ·cases l with
   | nil =>
    rcases a5J (c:=c.app k) (c':=c.app k0) (cs:=base) (cs':=base0) (main:=main) (main':=main') hO.top.leaves hm hl hw hN with h|⟨v',w',es,hb,⟨x,h1,h2⟩|⟨ch,h1,h2⟩⟩
    ·exact .inl h
    ·exact .inr ⟨c.finish x,[],v',w',es,by rw [show real fr [c] k0 base0=G fr (c.app k0::base0) from rfl,h1,Y5 hcs];rfl,by rw [show real fr [c] k base=G fr (c.app k::base) from rfl,h2,Y5 hcs];rfl,hb,hc.finish x,λx hx=>by cases hx⟩
    ·exact .inr ⟨c.raise ch,[],v',w',es,by rw [show real fr [c] k0 base0=G fr (c.app k0::base0) from rfl,h1,a2V];rfl,by rw [show real fr [c] k base=G fr (c.app k::base) from rfl,h2,a2V];rfl,hb,hc.raise ch,λx hx=>by cases hx⟩
   | cons d l =>
    rcases a5J (c:=c) (c':=c) (cs:=tl (d::l) k base) (cs':=tl (d::l) k0 base0) (main:=main) (main':=main') hO.top.leaves hm hl hw hN with h|⟨v',w',es,hb,⟨x,h1,h2⟩|⟨ch,h1,h2⟩⟩
    ·exact .inl h
    ·exact .inr ⟨c.finish x,d::l,v',w',es,h1,h2,hb,hc.finish x,λy hy=>hO.rest y (List.mem_cons_of_mem _ hy)⟩
    ·exact .inr ⟨c.raise ch,d::l,v',w',es,h1,h2,hb,hc.raise ch,λy hy=>hO.rest y (List.mem_cons_of_mem _ hy)⟩
def O6:Frame:={ fn:=0,tmps:=#[],todo:=[.code (.refuse "")],defers:=[{ target:=.nil,args:=#[] }],mode:=.run,kind:=.normal }
theorem a9h (x:Value)(v:World):∃ o v' es,stepG P true (G (O6.finish x) []) v=.ended o v' es:=⟨_,_,_,rfl⟩
theorem b0M (ch:List PanicEntry)(v:World):∃ o v' es,stepG P true (G (O6.raise ch) []) v=.ended o v' es:=⟨_,_,_,rfl⟩
theorem a8u (fr:Frame)(above:List Frame)(k0:List Item)(base:List Frame):∃ fr1 cs1,real fr above k0 base=G fr1 cs1:=by
 cases above with
 | nil=>exact ⟨_,_,rfl⟩
 | cons c l=>exact ⟨_,_,rfl⟩
def a0j (g:Goroutine)(w:World):Machine:=lone g.frame g.callers w
theorem a7f {g g':Goroutine}{fr fr':Frame}{cs cs':List Frame}{w w':World}{es:Array Event}(hg:g=G fr cs)(hg':g'=G fr' cs')(h:stepG P true g w=.go g' w' es):step P (a0j g w)=.next (a0j g' w'):=by
 subst hg hg';refine step_lone_go ?_;show (stepG P true (G fr cs) w).bare=_;rw [h];rfl
theorem a1f {g:Goroutine}{fr:Frame}{cs:List Frame}{w w':World}{o:Outcome}{es:Array Event}(hg:g=G fr cs)(h:stepG P true g w=.ended o w' es):step P (a0j g w)=.ended o w':=by
 subst hg;refine step_lone_ended ?_;show (stepG P true (G fr cs) w).bare=_;rw [h];rfl
theorem a8v {n:Nat}{m m':Machine}(h:runN P (n+1) m=.next m'):∃ m1,step P m=.next m1/\runN P n m1=.next m':=by
 simp only [runN] at h;split at h
 ·rename_i m1 e;exact ⟨m1,e,h⟩
 ·rename_i e;exact absurd h (e m')
theorem b2m {fr fr':Frame}{k:List Item}(h:fr.app k=fr'.app k):fr=fr':=by
 cases fr;cases fr'
 simp only [Frame.app,Frame.mk.injEq,List.append_cancel_right_eq] at h;simp only [Frame.mk.injEq];exact h
theorem Lk.at {v w:World}(h:Lk sft v w)(d:Nat):Lk sft v (w.at d):=⟨h.heap,h.soft,h.sight,h.os,h.output⟩
def frz (sft:Nat->Nat)(w:World)(tape:Nat->Question->Nat):World:={ w with heap:=w.heap.mapIdx (λi o=>fz (sft i) o),tape:=tape,drawn:=0 }
theorem b2n {w:World}(hs:∀ i:Nat,sft i≠0->∃ c t,w.heap[i]?=some (.cells c t (0,0)))(hc:Clear w)(tape:Nat->Question->Nat):Lk sft (frz sft w tape) w :=
 ⟨λi=>by simp [frz],hs,hc,rfl,rfl⟩
section tape
variable (pos:Nat->Nat) (ans:Nat->Nat->Question->Nat)
open Classical in
noncomputable def b8g (x:Nat)(q:Question):Nat :=
 if h:∃ j,pos j<=x/\x<pos (j+1) then ans h.choose (x - pos h.choose) q else 0
theorem b8h (hmono:∀ j,pos j<=pos (j+1)){j i:Nat}(hi:pos j+i<pos (j+1))(q:Question):b8g pos ans (pos j+i) q=ans j i q:=by
 have h:∃ j',pos j'<=pos j+i/\pos j+i<pos (j'+1):=⟨j,Nat.le_add_right _ _,hi⟩;have hle:∀ a b,a<=b->pos a<=pos b:=λa b hab=>by
  induction hab with
  | refl=>exact Nat.le_refl _
  | step _ ih=>exact Nat.le_trans ih (hmono _)
 have e:h.choose=j:=by
  obtain ⟨h1,h2⟩:=h.choose_spec;rcases Nat.lt_trichotomy h.choose j with g|g|g
  ·have:=hle (h.choose+1) j g;omega
  ·exact g
  ·have:=hle (j+1) h.choose g;omega
 unfold b8g;rw [dif_pos h,e]
 congr 1
 omega
end tape
section chase
variable (P) (main:Bool) (D:World->World->Array Event->Prop) (Stop:Goroutine->World->Prop)
noncomputable def a4z (g:Goroutine)(w:World):Nat :=
 open Classical in if h:∃ d,¬ ∃ g' w' es,stepG P main g (w.at d)=.go g' w' es/\D (w.at d) w' es/\Must P main D Stop g' w' then h.choose else 0
theorem b5m {g:Goroutine}{w:World}(hr:g.status=.running)(h:¬ Must P main D Stop g w):¬ ∃ g' w' es,stepG P main g (w.at (a4z P main D Stop g w))=.go g' w' es/\D (w.at (a4z P main D Stop g w)) w' es/\Must P main D Stop g' w':=by
 have hx:∃ d,¬ ∃ g' w' es,stepG P main g (w.at d)=.go g' w' es/\D (w.at d) w' es/\Must P main D Stop g' w':=by
  refine Classical.byContradiction λhn=>h ?_;have hall:∀ d,∃ g' w' es,stepG P main g (w.at d)=.go g' w' es/\D (w.at d) w' es/\Must P main D Stop g' w':=λd=>Classical.byContradiction λhd=>hn ⟨d,hd⟩;exact .step (λd=>(hall d).choose) (λd=>(hall d).choose_spec.choose) (λd=>(hall d).choose_spec.choose_spec.choose) hr (λd=>(hall d).choose_spec.choose_spec.choose_spec.1) (λd=>(hall d).choose_spec.choose_spec.choose_spec.2.1) (λd=>(hall d).choose_spec.choose_spec.choose_spec.2.2)
 unfold a4z;rw [dif_pos hx];exact hx.choose_spec
noncomputable def H8 (g:Goroutine)(w:World):Nat->Goroutine × World
 | 0=>(g,w)
 | j+1=>match stepG P main (H8 g w j).1 ((H8 g w j).2.at (a4z P main D Stop (H8 g w j).1 (H8 g w j).2)) with
  | .go g' w' _=>(g',w')
  | _=>H8 g w j
noncomputable def b2o (g:Goroutine)(w:World)(j:Nat):Nat :=
 (stepG P main (H8 P main D Stop g w j).1 ((H8 P main D Stop g w j).2.at (a4z P main D Stop (H8 P main D Stop g w j).1 (H8 P main D Stop g w j).2))).wd - a4z P main D Stop (H8 P main D Stop g w j).1 (H8 P main D Stop g w j).2
noncomputable def places (g:Goroutine)(w:World):Nat->Nat
 | 0=>0
 | j+1=>places g w j+b2o P main D Stop g w j
end chase
theorem a4A (R:Rules P S meths st){fr0:Frame}(h0:OkF P S meths st fr0){k k0:List Item}(hk0:∀ id,exitTo id k0=none)(hk:k0=[]->k=[])(hrf:k0≠[]->k0=[.code (.refuse "")]){base:List Frame}{w0:World}(hs:∀ i:Nat,sft i≠0->∃ c t,w0.heap[i]?=some (.cells c t (0,0)))(hc:Clear w0)(main:Bool){F:Frame->World->Prop}
  (hrun:∀ v,Lk sft v w0->∃ n fr v',runN P n (a0j (G (fr0.app k0) [O6]) v)=.next (a0j (G fr [O6]) v')/\F fr v') :
  Must P main (DL st sft) (λg w=>∃ fr v,g=G (fr.app k) base/\Lk sft v w/\F (fr.app k0) v/\OkF P S meths st fr) (G (fr0.app k) base) w0:=by
 refine Classical.byContradiction λhno=>?_;generalize hSt:(λg w=>∃ fr v,g=G (fr.app k) base/\Lk sft v w/\F (fr.app k0) v/\OkF P S meths st fr)=Stop at hno;have hStop:∀ g w,(∃ fr v,g=G (fr.app k) base/\Lk sft v w/\F (fr.app k0) v/\OkF P S meths st fr)->Stop g w:=λg w h=>by rw [← hSt];exact h
 have hmono:∀ j,places P main (DL st sft) Stop (G (fr0.app k) base) w0 j<=places P main (DL st sft) Stop (G (fr0.app k) base) w0 (j+1):=λj=>Nat.le_add_right _ _;generalize hτ:b8g (places P main (DL st sft) Stop (G (fr0.app k) base) w0) (λj i q=>(H8 P main (DL st sft) Stop (G (fr0.app k) base) w0 j).2.tape (a4z P main (DL st sft) Stop (H8 P main (DL st sft) Stop (G (fr0.app k) base) w0 j).1 (H8 P main (DL st sft) Stop (G (fr0.app k) base) w0 j).2+i) q)=τ;have hτ':∀ j i q,i<b2o P main (DL st sft) Stop (G (fr0.app k) base) w0 j->τ (places P main (DL st sft) Stop (G (fr0.app k) base) w0 j+i) q=(H8 P main (DL st sft) Stop (G (fr0.app k) base) w0 j).2.tape (a4z P main (DL st sft) Stop (H8 P main (DL st sft) Stop (G (fr0.app k) base) w0 j).1 (H8 P main (DL st sft) Stop (G (fr0.app k) base) w0 j).2+i) q:=λj i q hi=>by
  rw [← hτ];exact b8h _ _ hmono (by show _<_+_;omega) q
 obtain ⟨n,frF,vF,hn,hF⟩:=hrun (frz sft w0 τ) (b2n hs hc τ);have key:∀ (r j:Nat) (fr:Frame) (above:List Frame) (v:World),(H8 P main (DL st sft) Stop (G (fr0.app k) base) w0 j).1=real fr above k base->OkS P S meths st fr above->Lk sft v (H8 P main (DL st sft) Stop (G (fr0.app k) base) w0 j).2->v.tape=τ ->
   v.drawn=places P main (DL st sft) Stop (G (fr0.app k) base) w0 j->¬ Must P main (DL st sft) Stop (H8 P main (DL st sft) Stop (G (fr0.app k) base) w0 j).1 (H8 P main (DL st sft) Stop (G (fr0.app k) base) w0 j).2 ->
   runN P r (a0j (real fr above k0 [O6]) v)=.next (a0j (G frF [O6]) vF)->False:=by
  intro r
  induction r with
  | zero =>
   intro j fr above v hg hO hl _ _ hM hr;have e:=Stepped.next.inj hr;have e1:(a0j (real fr above k0 [O6]) v).gs=(a0j (G frF [O6]) vF).gs:=by rw [e]
   have e2:(a0j (real fr above k0 [O6]) v).world=(a0j (G frF [O6]) vF).world:=by rw [e]
   have e3:v=vF:=e2
   cases above with
   | nil =>
    have e4:fr.app k0=frF:=by
     have:=congrArg (λa=>(a[0]?).map (·.frame)) e1;simpa [a0j,lone,real,G] using this
    subst e4;refine hM (.stop ?_);exact hStop _ _ ⟨fr,v,hg,hl,by rw [e3];exact hF,hO.top⟩
   | cons c l =>
    have:=congrArg (λa=>(a[0]?).map (·.callers.length)) e1
    cases l with
    | nil=>simp [a0j,lone,real,G,tl] at this
    | cons d l =>
     have hlen:∀ (d:Frame) (l:List Frame),0<(tl (d::l) k0 [O6]).length:=λd l=>by cases l<;>simp [tl]
     have h2:=hlen d l;simp [a0j,lone,real,G,tl] at this;simp [this] at h2
  | succ r ih =>
   intro j fr above v hg hO hl ht hd hM hr;obtain ⟨m1,hs1,hr1⟩:=a8v hr;obtain ⟨fr1,cs1,hreal⟩:=a8u fr above k0 [O6]
   by_cases hR:c0h fr above k k0
   ·
    obtain ⟨rfl,hR⟩:=hR
    by_cases hm:fr.mode≠.run
    ·have hlv:Lk (λ_=>0) v v:=⟨λi=>by
      rw [hl.heap i];generalize (H8 P main (DL st sft) Stop (G (fr0.app k) base) w0 j).2.heap[i]?=z
      cases z with
      | none=>rfl
      | some o=>simp [c1B],λ_ h=>absurd rfl h,trivial,rfl,rfl⟩
     have hpop:=a5J (P:=P) (st:=st) (sft:=λ_=>0) (fr:=fr.app k0) (c:=O6) (c':=O6) (cs:=[]) (cs':=[]) (v:=v) (w:=v) (main:=true) (main':=true) (N:=(stepG P true (G (fr.app k0) [O6]) v).wd) (hO.top.leaves.app k0) (by cases fr;exact hm) hlv (λ_ _ _=>rfl) (by omega);have hend:∀ (g':Goroutine) (fr':Frame) (v':World),g'=G fr' []->(∃ o v'' es,stepG P true g' v'=.ended o v'' es)->runN P r (a0j g' v')=.next (a0j (G frF [O6]) vF)->False:=by
      intro g' fr' v' hg' ⟨o,v'',es,he⟩ hr
      cases r with
      | zero =>
       have:=congrArg (λm=>(m.gs[0]?).map (·.callers.length)) (Stepped.next.inj hr);subst hg';simp [a0j,lone,G] at this
      | succ r =>
       obtain ⟨m2,h2,_⟩:=a8v hr;rw [a1f hg' he] at h2;cases h2
     rcases hpop with ⟨o,v',es,h⟩|⟨v',w',es,hb,⟨x,h1,_⟩|⟨ch,h1,_⟩⟩
     ·rw [show real fr [] k0 [O6]=G (fr.app k0) [O6] from rfl,a1f rfl h] at hs1;cases hs1
     ·rw [show real fr [] k0 [O6]=G (fr.app k0) [O6] from rfl,a7f rfl rfl h1] at hs1;obtain rfl:=Stepped.next.inj hs1;exact hend _ _ _ rfl (a9h x v') hr1
     ·rw [show real fr [] k0 [O6]=G (fr.app k0) [O6] from rfl,a7f rfl rfl h1] at hs1;obtain rfl:=Stepped.next.inj hs1;exact hend _ _ _ rfl (b0M ch v') hr1
    ·obtain ⟨htd,hkk⟩:=hR.resolve_left hm;have hk0':k0≠[]:=λe=>hkk ⟨hk e,e⟩;have hk0e:=hrf hk0';have hmr:fr.mode=.run:=Classical.byContradiction hm;have he:∃ o v' es,stepG P true (real fr [] k0 [O6]) v=.ended o v' es:=by
      rw [hk0e];obtain ⟨f,tmps,todo,defers,mode,kind,round⟩:=fr;dsimp only at hmr htd;subst hmr htd;exact ⟨_,_,_,rfl⟩
     obtain ⟨o,v',es,he⟩:=he;rw [a1f hreal he] at hs1;cases hs1
   ·have hN:(stepG P main (real fr above k base) ((H8 P main (DL st sft) Stop (G (fr0.app k) base) w0 j).2.at (a4z P main (DL st sft) Stop (H8 P main (DL st sft) Stop (G (fr0.app k) base) w0 j).1 (H8 P main (DL st sft) Stop (G (fr0.app k) base) w0 j).2))).wd<=((H8 P main (DL st sft) Stop (G (fr0.app k) base) w0 j).2.at (a4z P main (DL st sft) Stop (H8 P main (DL st sft) Stop (G (fr0.app k) base) w0 j).1 (H8 P main (DL st sft) Stop (G (fr0.app k) base) w0 j).2)).drawn+b2o P main (DL st sft) Stop (G (fr0.app k) base) w0 j:=by
     rw [← hg];show _<=a4z P main (DL st sft) Stop _ _+(_ - a4z P main (DL st sft) Stop _ _);omega
    rcases b8f (base0:=[O6]) (main:=main) (main':=true) R hO hk0 hR (hl.at _) (N:=b2o P main (DL st sft) Stop (G (fr0.app k) base) w0 j) (λi q hi=>by rw [ht,hd];exact hτ' j i q hi) hN with ⟨o,v',es,h⟩|⟨fr',above',v',w',es,h1,h2,hb,hO'⟩
    ·rw [a1f hreal h] at hs1;cases hs1
    ·obtain ⟨fr2,cs2,hreal'⟩:=a8u fr' above' k0 [O6];rw [a7f hreal hreal' h1] at hs1;obtain rfl:=Stepped.next.inj hs1;have hrun':(H8 P main (DL st sft) Stop (G (fr0.app k) base) w0 j).1.status=.running:=by rw [hg];exact a9g _ _ _ _
     have h2':=h2;rw [← hg] at h2';have hch:H8 P main (DL st sft) Stop (G (fr0.app k) base) w0 (j+1)=(real fr' above' k base,w'):=by simp only [H8,h2']
     obtain ⟨c,hdr⟩:=hb.drew;have hbad:=b5m P main (DL st sft) Stop hrun' hM;have hnm:¬ Must P main (DL st sft) Stop (real fr' above' k base) w':=λhm=>hbad ⟨_,_,_,h2',⟨⟨hb.kept.same,hb.kept.size,hb.kept.new⟩,hb.off,hdr.all⟩,hm⟩;refine ih (j+1) fr' above' v' (by rw [hch]) hO' (by rw [hch];exact hb.lk) (hdr.tv.trans ht) ?_ (by rw [hch];exact hnm) hr1;show v'.drawn=places P main (DL st sft) Stop (G (fr0.app k) base) w0 j+b2o P main (DL st sft) Stop (G (fr0.app k) base) w0 j;have:b2o P main (DL st sft) Stop (G (fr0.app k) base) w0 j=c:=by
      unfold b2o;rw [h2'];show w'.drawn - _=c;rw [hdr.dw];show a4z P main (DL st sft) Stop _ _+c - a4z P main (DL st sft) Stop _ _=c;omega
     rw [hdr.dv,hd,this]
 exact key n 0 fr0 [] (frz sft w0 τ) rfl ⟨h0,λc hc=>by cases hc⟩ (b2n hs hc τ) rfl rfl hno hn
end Go.Proofs.YtcgabodkegcpgaaDoor.Br
