/- The bridge, third stone: a step of code of the set S in the frozen world is the same step in the real one, whoever has called, and whatever else the tape holds. No statement of the program is proved here. -/
import Derived.Test.YtcgabodkegcpgaaDoorTac
import Derived.Conc.Machine
namespace Go.Proofs.YtcgabodkegcpgaaDoor.Br
set_option maxHeartbeats 20000000
variable {P:Program} {S:FuncId→Bool} {meths:List String} {st:Bool} {sft:Nat→Nat}
set_option linter.unusedSimpArgs false
open Go.Conc (G)
theorem t_results (fn:Func)(tmps:Array Value):TT P (st=true) (results fn tmps):=by
 unfold results
 refine t_bnd (t_mapM _ (fun r=>?_) _) fun _=>trivial
 split
 ·exact trivial
 ·exact t_bnd (t_asAddr _) fun _=>t_loadVar _ _
theorem app_nil (fr:Frame):fr.app []=fr:=by cases fr;simp [Frame.app]
theorem app_eval (fr:Frame)(k:List Item):(fr.app k).eval=fr.eval:=by funext x;cases x<;>rfl
theorem app_raise (fr:Frame)(k:List Item)(ch:List PanicEntry):(fr.app k).raise ch=(fr.raise ch).app k:=by
 cases fr with|mk a b c d m e f=>cases m<;>rfl
def Susp (fr:Frame):Prop:=∃ ops i rest t,fr.todo=.inRegion ops (i::rest)::t
theorem app_finish {fr:Frame}(h:Susp fr)(k:List Item)(x:Value):(fr.app k).finish x=(fr.finish x).app k:=by
 obtain ⟨ops,i,rest,t,h⟩:=h
 cases fr with
 | mk a b c d m e f =>
  obtain rfl:c=_:=h
  rfl
theorem okItems_exit {id:Nat}:∀ {k k':List Item},(∀ x∈k,okItem P S meths st x)→exitTo id k=some k'→∀ x∈k',okItem P S meths st x
 | [],_,_,h=>by cases h
 | y::k,k',hk,h=>by
  have hk':∀ x∈k,okItem P S meths st x:=fun x hx=>hk x (List.mem_cons_of_mem _ hx)
  cases y with
  | inBlock id' =>
   unfold exitTo at h
   split at h
   ·obtain rfl:=Option.some.inj h;exact hk'
   ·exact okItems_exit hk' h
  | _=>exact okItems_exit hk' h
theorem exitTo_app {id:Nat}{kk:List Item}:∀ {k k':List Item},exitTo id k=some k'→exitTo id (k ++ kk)=some (k' ++ kk)
 | [],_,h=>by cases h
 | y::k,k',h=>by
  cases y with
  | inBlock id' =>
   unfold exitTo at h
   simp only [List.cons_append,exitTo]
   split at h
   ·rename_i e;obtain rfl:=Option.some.inj h;simp only [e,if_true]
   ·rename_i e;simp only [e,if_false];exact exitTo_app h
  | _=>exact exitTo_app (k:=k) h
theorem exitTo_none {id:Nat}{kk:List Item}(hk:exitTo id kk=none):∀ {k:List Item},exitTo id k=none→exitTo id (k ++ kk)=none
 | [],_=>hk
 | y::k,h=>by
  cases y with
  | inBlock id' =>
   unfold exitTo at h
   simp only [List.cons_append,exitTo]
   split at h
   ·cases h
   ·rename_i e;simp only [e,if_false];exact exitTo_none hk h
  | _=>exact exitTo_none hk (k:=k) h
def Goes1 (P:Program)(S:FuncId→Bool)(meths:List String)(st:Bool)(sft:Nat→Nat)(fr:Frame)(kk kk':List Item)(cs cs':List Frame)(v w:World)(s s':GStep):Prop :=
 ∃ fr' v' w' es,Both st sft v v' w w' es∧OkF P S meths st fr' ∧
  ((s'=.go (G (fr'.app kk') cs') v' es∧s=.go (G (fr'.app kk) cs) w' es)∨(Susp fr∧s'=.go (G fr' (fr.app kk'::cs')) v' es∧s=.go (G fr' (fr.app kk::cs)) w' es))
theorem sim_to {fr:Frame}{kk kk':List Item}{cs cs':List Frame}{v w:World}(hl:Lk sft v w){s s':GStep}{fr':Frame}(hF':OkF P S meths st fr')(h:s=.go (G (fr'.app kk) cs) w #[])(h':s'=.go (G (fr'.app kk') cs') v #[]) :
  (∃ o v' es,s'=.ended o v' es)∨Goes1 P S meths st sft fr kk kk' cs cs' v w s s' :=
 .inr ⟨fr',v,w,#[],.still hl,hF',.inl ⟨h',h⟩⟩
theorem run_sim (R:Rules P S meths st){fr:Frame}(hF:OkF P S meths st fr){kk kk':List Item}{cs cs':List Frame}(hm:fr.mode=.run)(hne:fr.todo≠[]∨kk=[]∧kk'=[])(hkk':∀ id,exitTo id kk'=none){v w:World}(hl:Lk sft v w){N:Nat}(hw:Win N v w){main main':Bool}
  (hN:(stepG P main (G (fr.app kk) cs) w).wd≤w.drawn+N) :
  (∃ o v' es,stepG P main' (G (fr.app kk') cs') v=.ended o v' es)∨Goes1 P S meths st sft fr kk kk' cs cs' v w (stepG P main (G (fr.app kk) cs) w) (stepG P main' (G (fr.app kk') cs') v):=by
 have hF0:=hF
 obtain ⟨f,tmps,todo,defers,mode,kind,round⟩:=fr
 obtain ⟨hkind,hround,hdefers,⟨fn,hfn⟩,htodo⟩:=hF
 dsimp only at hkind hround hdefers hfn htodo hm hne
 subst hkind hround hdefers hm
 cases todo with
 | nil =>
  obtain ⟨rfl,rfl⟩:kk=[]∧kk'=[]:=hne.elim (fun h=>absurd rfl h) id
  exact sim_to hl (fr':={ fn:=f,tmps,todo:=[],defers:=[],mode:=.returning,kind:=.normal }) ⟨rfl,rfl,rfl,⟨fn,hfn⟩,htodo⟩ rfl rfl
 | cons x k =>
  have hx:=htodo x (List.mem_cons_self ..)
  have hk:∀ y∈k,okItem P S meths st y:=fun y hy=>htodo y (List.mem_cons_of_mem _ hy)
  have mk:∀ {todo':List Item},(∀ y∈todo',okItem P S meths st y)→OkF P S meths st { fn:=f,tmps,todo:=todo',defers:=[],mode:=.run,kind:=.normal }:=fun h=>⟨rfl,rfl,rfl,⟨fn,hfn⟩,h⟩
  cases x with
  | code c =>
   cases c with
   | skip=>exact sim_to hl (mk hk) rfl rfl
   | label l=>exact sim_to hl (mk hk) rfl rfl
   | ret=>exact sim_to hl (fr':={ fn:=f,tmps,todo:=.code .ret::k,defers:=[],mode:=.returning,kind:=.normal }) ⟨rfl,rfl,rfl,⟨fn,hfn⟩,htodo⟩ rfl rfl
   | seq a b =>
    have hab:okCode P S meths st a=true∧okCode P S meths st b=true:=by simpa [okItem,okCode] using hx
    refine sim_to hl (mk (todo':=.code a::.code b::k) fun y hy=>?_) rfl rfl
    rcases List.mem_cons.1 hy with rfl|hy
    ·exact hab.1
    ·rcases List.mem_cons.1 hy with rfl|hy
     ·exact hab.2
     ·exact hk y hy
   | block id a =>
    refine sim_to hl (mk (todo':=.code a::.inBlock id::k) fun y hy=>?_) rfl rfl
    rcases List.mem_cons.1 hy with rfl|hy
    ·exact hx
    ·rcases List.mem_cons.1 hy with rfl|hy
     ·exact trivial
     ·exact hk y hy
   | loop a =>
    refine sim_to hl (mk (todo':=.code a::.inLoop a::k) fun y hy=>?_) rfl rfl
    rcases List.mem_cons.1 hy with rfl|hy
    ·exact hx
    ·rcases List.mem_cons.1 hy with rfl|hy
     ·exact hx
     ·exact hk y hy
   | cond c a b =>
    have hab:okCode P S meths st a=true∧okCode P S meths st b=true:=by simpa [okItem,okCode] using hx
    cases e:Frame.eval { fn:=f,tmps,todo:=.code (.cond c a b)::k,defers:=[],mode:=.run,kind:=.normal } c with
    | bool t =>
     refine sim_to hl (mk (todo':=.code (if t then a else b)::k) fun y hy=>?_) (by
      have e':Frame.eval { fn:=f,tmps,todo:=.code (.cond c a b)::(k ++ kk),defers:=[],mode:=.run,kind:=.normal } c=.bool t:=e
      simp only [stepG,G,stepG.exec,Frame.app,List.cons_append,e']) (by
      have e':Frame.eval { fn:=f,tmps,todo:=.code (.cond c a b)::(k ++ kk'),defers:=[],mode:=.run,kind:=.normal } c=.bool t:=e
      simp only [stepG,G,stepG.exec,Frame.app,List.cons_append,e'])
     rcases List.mem_cons.1 hy with rfl|hy
     ·cases t
      ·exact hab.2
      ·exact hab.1
     ·exact hk y hy
    | _ =>
     refine .inl ⟨.stuck "cond: bool expected" (Frame.pos P (Frame.app { fn:=f,tmps,todo:=.code (.cond c a b)::k,defers:=[],mode:=.run,kind:=.normal } kk')),v,#[],?_⟩
     have e':=(congrFun (app_eval { fn:=f,tmps,todo:=.code (.cond c a b)::k,defers:=[],mode:=.run,kind:=.normal } kk') c).trans e
     simp only [Frame.app,List.cons_append] at e'
     simp only [stepG,G,stepG.exec,Frame.app,List.cons_append,e']
   | exit id =>
    cases e:exitTo id k with
    | none=>exact .inl ⟨_,_,_,by simp only [stepG,G,stepG.exec,Frame.app,List.cons_append,exitTo_none (hkk' id) e,Option.elim_none];rfl⟩
    | some k'=>exact sim_to hl (mk (okItems_exit hk e)) (by simp only [stepG,G,stepG.exec,Frame.app,List.cons_append,exitTo_app e,Option.elim_some]) (by simp only [stepG,G,stepG.exec,Frame.app,List.cons_append,exitTo_app e,Option.elim_some])
   | region id ops draw =>
    have hops:∀ l,∀ y∈Item.inRegion ops l::k,okItem P S meths st y:=fun l y hy=>by
     rcases List.mem_cons.1 hy with rfl|hy
     ·exact hx
     ·exact hk y hy
    cases draw with
    | false=>exact sim_to hl (mk (hops _)) rfl rfl
    | true =>
     have e1:∀ (m:Bool) (cs:List Frame) (u:World) (k:List Item),stepG P m (G { fn:=f,tmps,todo:=.code (.region id ops true)::k,defers:=[],mode:=.run,kind:=.normal } cs) u =
       .go (G { fn:=f,tmps,todo:=.inRegion ops (Region.schedule (P.follows .mixedOrders) ops (u.tape u.drawn (.order f id)))::k,defers:=[],mode:=.run,kind:=.normal } cs) { u with drawn:=u.drawn+1 } #[]:=fun m cs u k=>rfl
     have e2:stepG P main (G (Frame.app { fn:=f,tmps,todo:=.code (.region id ops true)::k,defers:=[],mode:=.run,kind:=.normal } kk) cs) w=_:=e1 main cs w (k ++ kk)
     rw [e2] at hN
     have hN1:0<N:=by
      have:w.drawn+1≤w.drawn+N:=hN
      omega
     have et:v.tape v.drawn (.order f id)=w.tape w.drawn (.order f id):=hw 0 _ hN1
     exact .inr ⟨_,{ v with drawn:=v.drawn+1 },{ w with drawn:=w.drawn+1 },#[],⟨⟨hl.heap,hl.soft,hl.sight,hl.os,hl.output⟩,(.of_heap _ rfl),fun e he=>by simp at he,1,⟨rfl,rfl,rfl,rfl,rfl,rfl⟩⟩,mk (hops _),.inl ⟨e1 main' cs' v (k ++ kk'),by rw [e2,et];rfl⟩⟩
   | rangeFunc a b c d=>cases hx
   | scope a=>cases hx
   | goto l=>cases hx
   | refuse m=>cases hx
  | inBlock id=>exact sim_to hl (mk hk) rfl rfl
  | inLoop a =>
   refine sim_to hl (mk (todo':=.code a::.inLoop a::k) fun y hy=>?_) rfl rfl
   rcases List.mem_cons.1 hy with rfl|hy
   ·exact hx
   ·rcases List.mem_cons.1 hy with rfl|hy
    ·exact hx
    ·exact hk y hy
  | inRegion ops l =>
   cases l with
   | nil=>exact sim_to hl (mk hk) rfl rfl
   | cons i l =>
    cases e:((ops[i]?).map (Region.wanted · (yielded ops tmps))).getD false with
    | false =>
     refine sim_to hl (fr':=Frame.finish { fn:=f,tmps,todo:=.inRegion ops (i::l)::k,defers:=[],mode:=.run,kind:=.normal } undef) (hF0.finish _) ?_ ?_
     ·rw [← app_finish ⟨_,_,_,_,rfl⟩]
      simp only [stepG,G,stepG.exec,Frame.app,List.cons_append,e,Bool.false_eq_true,if_false]
     ·rw [← app_finish ⟨_,_,_,_,rfl⟩]
      simp only [stepG,G,stepG.exec,Frame.app,List.cons_append,e,Bool.false_eq_true,if_false]
    | true =>
     cases ho:ops[i]? with
     | none=>rw [ho] at e;cases e
     | some o =>
      have e1:∀ (m:Bool) (cs:List Frame) (u:World) (k:List Item),stepG P m (G { fn:=f,tmps,todo:=.inRegion ops (i::l)::k,defers:=[],mode:=.run,kind:=.normal } cs) u =
        stepG.apply P true { fn:=f,tmps,todo:=.inRegion ops (i::l)::k,defers:=[],mode:=.run,kind:=.normal } cs none (execOp (Frame.eval { fn:=f,tmps,todo:=.inRegion ops (i::l)::k,defers:=[],mode:=.run,kind:=.normal }) o) u:=fun m cs u k=>by
       have e':=e
       rw [ho] at e'
       simp only [stepG,G,stepG.exec,stepG.oper,Frame.oper?,ho,e',if_true]
      have e2:∀ (m:Bool) (cs:List Frame) (u:World) (kk:List Item),stepG P m (G (Frame.app { fn:=f,tmps,todo:=.inRegion ops (i::l)::k,defers:=[],mode:=.run,kind:=.normal } kk) cs) u =
        stepG.apply P true (Frame.app { fn:=f,tmps,todo:=.inRegion ops (i::l)::k,defers:=[],mode:=.run,kind:=.normal } kk) cs none (execOp (Frame.eval { fn:=f,tmps,todo:=.inRegion ops (i::l)::k,defers:=[],mode:=.run,kind:=.normal }) o) u:=fun m cs u kk=>by
       rw [← app_eval _ kk]
       exact e1 m cs u (k ++ kk)
      rw [e2] at hN
      have hop:okOp P S meths st o.op=true:=by
       have:ops.all (fun o=>okOp P S meths st o.op)=true:=hx
       rw [Array.all_eq_true_iff_forall_mem] at this
       exact this o (Array.mem_of_getElem? ho)
      have ht:=t_execOp (P:=P) (st:=st) id R.call R.meth (ρ:=Frame.eval { fn:=f,tmps,todo:=.inRegion ops (i::l)::k,defers:=[],mode:=.run,kind:=.normal }) (fun _=>rfl) (fun _=>rfl) o hop
      have hs:Susp { fn:=f,tmps,todo:=.inRegion ops (i::l)::k,defers:=[],mode:=.run,kind:=.normal }:=⟨_,_,_,_,rfl⟩
      rw [e2,e2]
      rcases apply_sim (cs:=cs) (cs':=cs') (kk:=kk) (kk':=kk') hF0 ht hl hw hN rfl with ⟨a,b,c,h⟩|⟨v',w',es,hb,⟨x,h1,h2⟩|⟨g,args,hg,h1,h2⟩|⟨ch,h1,h2⟩⟩
      ·exact .inl ⟨a,b,c,h⟩
      ·exact .inr ⟨_,v',w',es,hb,hF0.finish x,.inl ⟨by rw [h1,app_finish hs],by rw [h2,app_finish hs]⟩⟩
      ·exact .inr ⟨_,v',w',es,hb,.enter R hg args,.inr ⟨hs,h1,h2⟩⟩
      ·exact .inr ⟨_,v',w',es,hb,hF0.raise ch,.inl ⟨by rw [h1,app_raise],by rw [h2,app_raise]⟩⟩
  | _=>exact hx.elim
structure OkL (P:Program) (fr:Frame):Prop where
 kind:fr.kind=.normal
 round:fr.roundOf=none
 defers:fr.defers=[]
 fn:∃ fn,P.funcs[fr.fn]?=some fn
theorem OkF.leaves {fr:Frame}(h:OkF P S meths st fr):OkL P fr:=⟨h.kind,h.round,h.defers,h.fn⟩
theorem OkL.app {fr:Frame}(h:OkL P fr)(k:List Item):OkL P (fr.app k):=⟨h.kind,h.round,h.defers,h.fn⟩
theorem pop_sim {fr:Frame}(hF:OkL P fr)(hm:fr.mode≠.run){c c':Frame}{cs cs':List Frame}{v w:World}(hl:Lk sft v w){N:Nat}(hw:Win N v w){main main':Bool}
    (hN:(stepG P main (G fr (c::cs)) w).wd≤w.drawn+N) :
    (∃ o v' es,stepG P main' (G fr (c'::cs')) v=.ended o v' es)∨∃ v' w' es,Both st sft v v' w w' es ∧
      ((∃ x,stepG P main' (G fr (c'::cs')) v=.go (G (c'.finish x) cs') v' es∧stepG P main (G fr (c::cs)) w=.go (G (c.finish x) cs) w' es) ∨
       (∃ ch,stepG P main' (G fr (c'::cs')) v=.go (G (c'.raise ch) cs') v' es∧stepG P main (G fr (c::cs)) w=.go (G (c.raise ch) cs) w' es)):=by
  obtain ⟨f,tmps,todo,defers,mode,kind,round⟩:=fr
  obtain ⟨hkind,hround,hdefers,⟨fn,hfn⟩⟩:=hF
  dsimp only at hkind hround hdefers hfn hm
  subst hkind hround hdefers
  cases mode with
  | run=>exact absurd rfl hm
  | panicking ch =>
    have e1:∀ (m:Bool) (c:Frame) (cs:List Frame) (u:World),stepG P m (G { fn:=f,tmps,todo:=todo,defers:=[],mode:=.panicking ch,kind:=.normal } (c::cs)) u=.go (G (c.raise ch) cs) u #[]:=fun m c cs u=>by
      simp [stepG,G,unwind,Frame.catches,hfn]
    exact .inr ⟨v,w,#[],.still hl,.inr ⟨ch,e1 _ _ _ _,e1 _ _ _ _⟩⟩
  | returning =>
    have e1:∀ (m:Bool) (c:Frame) (cs:List Frame) (u:World),stepG P m (G { fn:=f,tmps,todo:=todo,defers:=[],mode:=.returning,kind:=.normal } (c::cs)) u =
        GStep.after (seen P f ((results fn tmps).runT P u #[]).2) (match ((results fn tmps).runT P u #[]).1 with
          | .ok v w=>.go (G (c.finish v) cs) w
          | .halt (.stuck s) w=>.ended (.stuck s (Frame.pos P { fn:=f,tmps,todo:=todo,defers:=[],mode:=.returning,kind:=.normal })) w
          | .halt _ w=>.ended (.stuck "return: the result variables cannot be read" (Frame.pos P { fn:=f,tmps,todo:=todo,defers:=[],mode:=.returning,kind:=.normal })) w):=fun m c cs u=>by
      simp only [stepG,G,unwind,hfn,doReturn]
      rcases (Sem.runT P (results fn tmps) u #[]) with ⟨r,es⟩
      cases r with
      | ok a b=>rfl
      | halt h b=>cases h<;>rfl
    have hs:=t_results (P:=P) (st:=st) fn tmps
    rw [e1] at hN
    have hNr:((results fn tmps).runT P w #[]).1.world.drawn≤w.drawn+N:=by
      revert hN
      rw [wd_after]
      rcases t_ends P (results fn tmps) (st=true) _ w #[] hs with ⟨a,w',es',e,hp⟩|⟨x,w',es',e⟩|⟨x,w',es',e,hb⟩
      · rw [e];exact id
      · rw [e];exact id
      · rw [e];cases x<;>exact id
    have key:=lk_run P (results fn tmps) (st=true) _ (v:=v) (w:=w) #[] N hs hl hw hNr
    simp only [e1]
    revert key
    generalize (results fn tmps).runT P v #[]=rv
    generalize (results fn tmps).runT P w #[]=rw'
    intro key
    cases key with
    | @ok a v' w' es' n hp h1 h2 h3 h4 =>
      refine .inr ⟨v',w',seen P f es' ++ #[],⟨h1,h2,fun e he=>?_,n,h4⟩,.inl ⟨a,rfl,rfl⟩⟩
      rw [Array.append_empty] at he
      rcases h3 e (mem_seen he) with h|h
      · simp at h
      · exact h
    | panic _ _ _ _=>exact .inl ⟨_,_,_,rfl⟩
    | @lost x v' es' r hb=>cases x<;>exact .inl ⟨_,_,_,rfl⟩
variable {P:Program} {S:FuncId→Bool} {meths:List String} {st:Bool} {sft:Nat→Nat}
set_option linter.unusedSimpArgs false
open Go.Conc (G)
inductive Must (P:Program) (main:Bool) (D:World→World→Array Event→Prop) (Stop:Goroutine→World→Prop):Goroutine→World→Prop where
 | stop {g:Goroutine} {w:World}:Stop g w→Must P main D Stop g w
 | step {g:Goroutine} {w:World} (g':Nat→Goroutine) (w':Nat→World) (es:Nat→Array Event):g.status=.running→(∀ d,stepG P main g (w.at d)=.go (g' d) (w' d) (es d))→(∀ d,D (w.at d) (w' d) (es d)) →
   (∀ d,Must P main D Stop (g' d) (w' d))→Must P main D Stop g w
def DL (st:Bool)(sft:Nat→Nat)(w w':World)(es:Array Event):Prop:=Kept sft w w'∧(∀ e∈es,Off sft (st=true) w'.heap.size e)∧(w'.tape,w'.os,w'.output)=(w.tape,w.os,w.output)
theorem Must.mono {main:Bool}{D D':World→World→Array Event→Prop}{Stop Stop':Goroutine→World→Prop}{g:Goroutine}{w:World}(h:Must P main D Stop g w)(hD:∀ w w' es,D w w' es→D' w w' es)(hS:∀ g w,Stop g w→Stop' g w):Must P main D' Stop' g w:=by
 induction h with
 | stop h=>exact .stop (hS _ _ h)
 | step g' w' es h1 h2 h3 _ ih=>exact .step g' w' es h1 h2 (fun d=>hD _ _ _ (h3 d)) ih
theorem Must.then {main:Bool}{D:World→World→Array Event→Prop}{Stop Stop':Goroutine→World→Prop}{g:Goroutine}{w:World}(h:Must P main D Stop g w)(hS:∀ g w,Stop g w→Must P main D Stop' g w):Must P main D Stop' g w:=by
 induction h with
 | stop h=>exact hS _ _ h
 | step g' w' es h1 h2 h3 _ ih=>exact .step g' w' es h1 h2 h3 ih
theorem Must.keep {main:Bool}{Stop:Goroutine→World→Prop}{g:Goroutine}{w:World}(h:Must P main (DL st sft) Stop g w):Must P main (DL st sft) (fun g' w'=>Stop g' w'∧Kept sft w w') g w:=by
 induction h with
 | stop h=>exact .stop ⟨h,.refl _ _⟩
 | @step g w g' w' es h1 h2 h3 _ ih =>
  refine .step g' w' es h1 h2 h3 fun d=>(ih d).mono (fun _ _ _ x=>x) fun g2 w2 x=>⟨x.1,?_⟩
  have hk:Kept sft w (w.at d):=.of_heap _ rfl
  exact hk.trans ((h3 d).1.trans x.2)
def tl:List Frame→List Item→List Frame→List Frame
 | [],_,base=>base
 | [c],k,base=>c.app k::base
 | c::d::l,k,base=>c::tl (d::l) k base
def real (fr:Frame)(above:List Frame)(k:List Item)(base:List Frame):Goroutine :=
 match above with
 | []=>G (fr.app k) base
 | c::l=>G fr (tl (c::l) k base)
theorem real_running (fr:Frame)(above:List Frame)(k:List Item)(base:List Frame):(real fr above k base).status=.running:=by cases above<;>rfl
structure OkS (P:Program) (S:FuncId→Bool) (meths:List String) (st:Bool) (fr:Frame) (above:List Frame):Prop where
 top:OkF P S meths st fr
 rest:∀ c∈above,OkF P S meths st c∧Susp c
def Ready (fr:Frame)(above:List Frame)(k k0:List Item):Prop:=above=[]∧(fr.mode≠.run∨(fr.todo=[]∧¬ (k=[]∧k0=[])))
theorem step_all (R:Rules P S meths st){fr:Frame}{above:List Frame}(hO:OkS P S meths st fr above){k k0:List Item}{base base0:List Frame}(hk0:∀ id,exitTo id k0=none)(hr:¬ Ready fr above k k0){v w:World}(hl:Lk sft v w){N:Nat}(hw:Win N v w){main main':Bool}
  (hN:(stepG P main (real fr above k base) w).wd≤w.drawn+N) :
  (∃ o v' es,stepG P main' (real fr above k0 base0) v=.ended o v' es) ∨
  ∃ fr' above' v' w' es,stepG P main' (real fr above k0 base0) v=.go (real fr' above' k0 base0) v' es∧stepG P main (real fr above k base) w=.go (real fr' above' k base) w' es∧Both st sft v v' w w' es∧OkS P S meths st fr' above':=by
 cases above with
 | nil =>
  have hm:fr.mode=.run:=Classical.byContradiction fun h=>hr ⟨rfl,.inl h⟩
  have hne:fr.todo≠[]∨k=[]∧k0=[]:=by
   by_cases h:fr.todo=[]
   ·exact .inr (Classical.byContradiction fun h'=>hr ⟨rfl,.inr ⟨h,h'⟩⟩)
   ·exact .inl h
  rcases run_sim (kk:=k) (kk':=k0) (cs:=base) (cs':=base0) (main:=main) (main':=main') R hO.top hm hne hk0 hl hw hN with h|⟨fr',v',w',es,hb,hF',⟨h1,h2⟩|⟨hs,h1,h2⟩⟩
  ·exact .inl h
  ·exact .inr ⟨fr',[],v',w',es,h1,h2,hb,hF',fun c hc=>by cases hc⟩
  ·exact .inr ⟨fr',[fr],v',w',es,h1,h2,hb,hF',fun c hc=>by
    rcases List.mem_cons.1 hc with rfl|hc
    ·exact ⟨hO.top,hs⟩
    ·cases hc⟩
 | cons c l =>
  obtain ⟨hc,hcs⟩:=hO.rest c (List.mem_cons_self ..)
  by_cases hm:fr.mode=.run
  ·have e:∀ k base,real fr (c::l) k base=G (fr.app []) (tl (c::l) k base):=fun k base=>by rw [app_nil];rfl
   rw [e] at hN
   rw [e,e]
   rcases run_sim (kk:=[]) (kk':=[]) (cs:=tl (c::l) k base) (cs':=tl (c::l) k0 base0) (main:=main) (main':=main') R hO.top hm (.inr ⟨rfl,rfl⟩) (fun _=>rfl) hl hw hN with h|⟨fr',v',w',es,hb,hF',⟨h1,h2⟩|⟨hs,h1,h2⟩⟩
   ·exact .inl h
   ·exact .inr ⟨fr',c::l,v',w',es,by rw [h1,app_nil];rfl,by rw [h2,app_nil];rfl,hb,hF',hO.rest⟩
   ·refine .inr ⟨fr',fr::c::l,v',w',es,by rw [h1,app_nil];rfl,by rw [h2,app_nil];rfl,hb,hF',fun x hx=>?_⟩
    rcases List.mem_cons.1 hx with rfl|hx
    ·exact ⟨hO.top,hs⟩
    ·exact hO.rest x hx
  ·cases l with
   | nil =>
    rcases pop_sim (c:=c.app k) (c':=c.app k0) (cs:=base) (cs':=base0) (main:=main) (main':=main') hO.top.leaves hm hl hw hN with h|⟨v',w',es,hb,⟨x,h1,h2⟩|⟨ch,h1,h2⟩⟩
    ·exact .inl h
    ·exact .inr ⟨c.finish x,[],v',w',es,by rw [show real fr [c] k0 base0=G fr (c.app k0::base0) from rfl,h1,app_finish hcs];rfl,by rw [show real fr [c] k base=G fr (c.app k::base) from rfl,h2,app_finish hcs];rfl,hb,hc.finish x,fun x hx=>by cases hx⟩
    ·exact .inr ⟨c.raise ch,[],v',w',es,by rw [show real fr [c] k0 base0=G fr (c.app k0::base0) from rfl,h1,app_raise];rfl,by rw [show real fr [c] k base=G fr (c.app k::base) from rfl,h2,app_raise];rfl,hb,hc.raise ch,fun x hx=>by cases hx⟩
   | cons d l =>
    rcases pop_sim (c:=c) (c':=c) (cs:=tl (d::l) k base) (cs':=tl (d::l) k0 base0) (main:=main) (main':=main') hO.top.leaves hm hl hw hN with h|⟨v',w',es,hb,⟨x,h1,h2⟩|⟨ch,h1,h2⟩⟩
    ·exact .inl h
    ·exact .inr ⟨c.finish x,d::l,v',w',es,h1,h2,hb,hc.finish x,fun y hy=>hO.rest y (List.mem_cons_of_mem _ hy)⟩
    ·exact .inr ⟨c.raise ch,d::l,v',w',es,h1,h2,hb,hc.raise ch,fun y hy=>hO.rest y (List.mem_cons_of_mem _ hy)⟩
def floor:Frame:={ fn:=0,tmps:=#[],todo:=[.code (.refuse "")],defers:=[{ target:=.nil,args:=#[] }],mode:=.run,kind:=.normal }
theorem floor_finish (x:Value)(v:World):∃ o v' es,stepG P true (G (floor.finish x) []) v=.ended o v' es:=⟨_,_,_,rfl⟩
theorem floor_raise (ch:List PanicEntry)(v:World):∃ o v' es,stepG P true (G (floor.raise ch) []) v=.ended o v' es:=⟨_,_,_,rfl⟩
theorem lone_real (fr:Frame)(above:List Frame)(k0:List Item)(base:List Frame):∃ fr1 cs1,real fr above k0 base=G fr1 cs1:=by
 cases above with
 | nil=>exact ⟨_,_,rfl⟩
 | cons c l=>exact ⟨_,_,rfl⟩
def loneG (g:Goroutine)(w:World):Machine:=lone g.frame g.callers w
theorem loneG_go {g g':Goroutine}{fr fr':Frame}{cs cs':List Frame}{w w':World}{es:Array Event}(hg:g=G fr cs)(hg':g'=G fr' cs')(h:stepG P true g w=.go g' w' es):step P (loneG g w)=.next (loneG g' w'):=by
 subst hg hg'
 refine step_lone_go ?_
 show (stepG P true (G fr cs) w).bare=_
 rw [h];rfl
theorem loneG_ended {g:Goroutine}{fr:Frame}{cs:List Frame}{w w':World}{o:Outcome}{es:Array Event}(hg:g=G fr cs)(h:stepG P true g w=.ended o w' es):step P (loneG g w)=.ended o w':=by
 subst hg
 refine step_lone_ended ?_
 show (stepG P true (G fr cs) w).bare=_
 rw [h];rfl
theorem runN_succ {n:Nat}{m m':Machine}(h:runN P (n+1) m=.next m'):∃ m1,step P m=.next m1∧runN P n m1=.next m':=by
 simp only [runN] at h
 split at h
 ·rename_i m1 e;exact ⟨m1,e,h⟩
 ·rename_i e;exact absurd h (e m')
theorem app_cancel {fr fr':Frame}{k:List Item}(h:fr.app k=fr'.app k):fr=fr':=by
 cases fr;cases fr'
 simp only [Frame.app,Frame.mk.injEq,List.append_cancel_right_eq] at h
 simp only [Frame.mk.injEq]
 exact h
theorem Lk.at {v w:World}(h:Lk sft v w)(d:Nat):Lk sft v (w.at d):=⟨h.heap,h.soft,h.sight,h.os,h.output⟩
def frz (sft:Nat→Nat)(w:World)(tape:Nat→Question→Nat):World:={ w with heap:=w.heap.mapIdx (fun i o=>fz (sft i) o),tape:=tape,drawn:=0 }
theorem lk_frz {w:World}(hs:∀ i:Nat,sft i≠0→∃ c t,w.heap[i]?=some (.cells c t (0,0)))(hc:Clear w)(tape:Nat→Question→Nat):Lk sft (frz sft w tape) w :=
 ⟨fun i=>by simp [frz],hs,hc,rfl,rfl⟩
section tape
variable (pos:Nat→Nat) (ans:Nat→Nat→Question→Nat)
open Classical in
noncomputable def glued (x:Nat)(q:Question):Nat :=
 if h:∃ j,pos j≤x∧x<pos (j+1) then ans h.choose (x - pos h.choose) q else 0
theorem glued_at (hmono:∀ j,pos j≤pos (j+1)){j i:Nat}(hi:pos j+i<pos (j+1))(q:Question):glued pos ans (pos j+i) q=ans j i q:=by
 have h:∃ j',pos j'≤pos j+i∧pos j+i<pos (j'+1):=⟨j,Nat.le_add_right _ _,hi⟩
 have hle:∀ a b,a≤b→pos a≤pos b:=fun a b hab=>by
  induction hab with
  | refl=>exact Nat.le_refl _
  | step _ ih=>exact Nat.le_trans ih (hmono _)
 have e:h.choose=j:=by
  obtain ⟨h1,h2⟩:=h.choose_spec
  rcases Nat.lt_trichotomy h.choose j with g|g|g
  ·have:=hle (h.choose+1) j g;omega
  ·exact g
  ·have:=hle (j+1) h.choose g;omega
 unfold glued
 rw [dif_pos h,e]
 congr 1
 omega
end tape
section chase
variable (P) (main:Bool) (D:World→World→Array Event→Prop) (Stop:Goroutine→World→Prop)
noncomputable def evil (g:Goroutine)(w:World):Nat :=
 open Classical in if h:∃ d,¬ ∃ g' w' es,stepG P main g (w.at d)=.go g' w' es∧D (w.at d) w' es∧Must P main D Stop g' w' then h.choose else 0
theorem evil_spec {g:Goroutine}{w:World}(hr:g.status=.running)(h:¬ Must P main D Stop g w):¬ ∃ g' w' es,stepG P main g (w.at (evil P main D Stop g w))=.go g' w' es∧D (w.at (evil P main D Stop g w)) w' es∧Must P main D Stop g' w':=by
 have hx:∃ d,¬ ∃ g' w' es,stepG P main g (w.at d)=.go g' w' es∧D (w.at d) w' es∧Must P main D Stop g' w':=by
  refine Classical.byContradiction fun hn=>h ?_
  have hall:∀ d,∃ g' w' es,stepG P main g (w.at d)=.go g' w' es∧D (w.at d) w' es∧Must P main D Stop g' w':=fun d=>Classical.byContradiction fun hd=>hn ⟨d,hd⟩
  exact .step (fun d=>(hall d).choose) (fun d=>(hall d).choose_spec.choose) (fun d=>(hall d).choose_spec.choose_spec.choose) hr (fun d=>(hall d).choose_spec.choose_spec.choose_spec.1) (fun d=>(hall d).choose_spec.choose_spec.choose_spec.2.1) (fun d=>(hall d).choose_spec.choose_spec.choose_spec.2.2)
 unfold evil
 rw [dif_pos hx]
 exact hx.choose_spec
noncomputable def chase (g:Goroutine)(w:World):Nat→Goroutine × World
 | 0=>(g,w)
 | j+1=>match stepG P main (chase g w j).1 ((chase g w j).2.at (evil P main D Stop (chase g w j).1 (chase g w j).2)) with
  | .go g' w' _=>(g',w')
  | _=>chase g w j
noncomputable def eats (g:Goroutine)(w:World)(j:Nat):Nat :=
 (stepG P main (chase P main D Stop g w j).1 ((chase P main D Stop g w j).2.at (evil P main D Stop (chase P main D Stop g w j).1 (chase P main D Stop g w j).2))).wd - evil P main D Stop (chase P main D Stop g w j).1 (chase P main D Stop g w j).2
noncomputable def places (g:Goroutine)(w:World):Nat→Nat
 | 0=>0
 | j+1=>places g w j+eats P main D Stop g w j
end chase
theorem must_of_lone (R:Rules P S meths st){fr0:Frame}(h0:OkF P S meths st fr0){k k0:List Item}(hk0:∀ id,exitTo id k0=none)(hk:k0=[]→k=[])(hrf:k0≠[]→k0=[.code (.refuse "")]){base:List Frame}{w0:World}(hs:∀ i:Nat,sft i≠0→∃ c t,w0.heap[i]?=some (.cells c t (0,0)))(hc:Clear w0)(main:Bool){F:Frame→World→Prop}
  (hrun:∀ v,Lk sft v w0→∃ n fr v',runN P n (loneG (G (fr0.app k0) [floor]) v)=.next (loneG (G fr [floor]) v')∧F fr v') :
  Must P main (DL st sft) (fun g w=>∃ fr v,g=G (fr.app k) base∧Lk sft v w∧F (fr.app k0) v∧OkF P S meths st fr) (G (fr0.app k) base) w0:=by
 refine Classical.byContradiction fun hno=>?_
 generalize hSt:(fun g w=>∃ fr v,g=G (fr.app k) base∧Lk sft v w∧F (fr.app k0) v∧OkF P S meths st fr)=Stop at hno
 have hStop:∀ g w,(∃ fr v,g=G (fr.app k) base∧Lk sft v w∧F (fr.app k0) v∧OkF P S meths st fr)→Stop g w:=fun g w h=>by rw [← hSt];exact h
 have hmono:∀ j,places P main (DL st sft) Stop (G (fr0.app k) base) w0 j≤places P main (DL st sft) Stop (G (fr0.app k) base) w0 (j+1):=fun j=>Nat.le_add_right _ _
 generalize hτ:glued (places P main (DL st sft) Stop (G (fr0.app k) base) w0) (fun j i q=>(chase P main (DL st sft) Stop (G (fr0.app k) base) w0 j).2.tape (evil P main (DL st sft) Stop (chase P main (DL st sft) Stop (G (fr0.app k) base) w0 j).1 (chase P main (DL st sft) Stop (G (fr0.app k) base) w0 j).2+i) q)=τ
 have hτ':∀ j i q,i<eats P main (DL st sft) Stop (G (fr0.app k) base) w0 j→τ (places P main (DL st sft) Stop (G (fr0.app k) base) w0 j+i) q=(chase P main (DL st sft) Stop (G (fr0.app k) base) w0 j).2.tape (evil P main (DL st sft) Stop (chase P main (DL st sft) Stop (G (fr0.app k) base) w0 j).1 (chase P main (DL st sft) Stop (G (fr0.app k) base) w0 j).2+i) q:=fun j i q hi=>by
  rw [← hτ]
  exact glued_at _ _ hmono (by show _<_+_;omega) q
 obtain ⟨n,frF,vF,hn,hF⟩:=hrun (frz sft w0 τ) (lk_frz hs hc τ)
 have key:∀ (r j:Nat) (fr:Frame) (above:List Frame) (v:World),(chase P main (DL st sft) Stop (G (fr0.app k) base) w0 j).1=real fr above k base→OkS P S meths st fr above→Lk sft v (chase P main (DL st sft) Stop (G (fr0.app k) base) w0 j).2→v.tape=τ →
   v.drawn=places P main (DL st sft) Stop (G (fr0.app k) base) w0 j→¬ Must P main (DL st sft) Stop (chase P main (DL st sft) Stop (G (fr0.app k) base) w0 j).1 (chase P main (DL st sft) Stop (G (fr0.app k) base) w0 j).2 →
   runN P r (loneG (real fr above k0 [floor]) v)=.next (loneG (G frF [floor]) vF)→False:=by
  intro r
  induction r with
  | zero =>
   intro j fr above v hg hO hl _ _ hM hr
   have e:=Stepped.next.inj hr
   have e1:(loneG (real fr above k0 [floor]) v).gs=(loneG (G frF [floor]) vF).gs:=by rw [e]
   have e2:(loneG (real fr above k0 [floor]) v).world=(loneG (G frF [floor]) vF).world:=by rw [e]
   have e3:v=vF:=e2
   cases above with
   | nil =>
    have e4:fr.app k0=frF:=by
     have:=congrArg (fun a=>(a[0]?).map (·.frame)) e1
     simpa [loneG,lone,real,G] using this
    subst e4
    refine hM (.stop ?_)
    exact hStop _ _ ⟨fr,v,hg,hl,by rw [e3];exact hF,hO.top⟩
   | cons c l =>
    have:=congrArg (fun a=>(a[0]?).map (·.callers.length)) e1
    cases l with
    | nil=>simp [loneG,lone,real,G,tl] at this
    | cons d l =>
     have hlen:∀ (d:Frame) (l:List Frame),0<(tl (d::l) k0 [floor]).length:=fun d l=>by cases l<;>simp [tl]
     have h2:=hlen d l
     simp [loneG,lone,real,G,tl] at this
     simp [this] at h2
  | succ r ih =>
   intro j fr above v hg hO hl ht hd hM hr
   obtain ⟨m1,hs1,hr1⟩:=runN_succ hr
   obtain ⟨fr1,cs1,hreal⟩:=lone_real fr above k0 [floor]
   by_cases hR:Ready fr above k k0
   ·
    obtain ⟨rfl,hR⟩:=hR
    by_cases hm:fr.mode≠.run
    ·have hlv:Lk (fun _=>0) v v:=⟨fun i=>by
      rw [hl.heap i]
      generalize (chase P main (DL st sft) Stop (G (fr0.app k) base) w0 j).2.heap[i]?=z
      cases z with
      | none=>rfl
      | some o=>simp [fz_fz],fun _ h=>absurd rfl h,trivial,rfl,rfl⟩
     have hpop:=pop_sim (P:=P) (st:=st) (sft:=fun _=>0) (fr:=fr.app k0) (c:=floor) (c':=floor) (cs:=[]) (cs':=[]) (v:=v) (w:=v) (main:=true) (main':=true) (N:=(stepG P true (G (fr.app k0) [floor]) v).wd) (hO.top.leaves.app k0) (by cases fr;exact hm) hlv (fun _ _ _=>rfl) (by omega)
     have hend:∀ (g':Goroutine) (fr':Frame) (v':World),g'=G fr' []→(∃ o v'' es,stepG P true g' v'=.ended o v'' es)→runN P r (loneG g' v')=.next (loneG (G frF [floor]) vF)→False:=by
      intro g' fr' v' hg' ⟨o,v'',es,he⟩ hr
      cases r with
      | zero =>
       have:=congrArg (fun m=>(m.gs[0]?).map (·.callers.length)) (Stepped.next.inj hr)
       subst hg'
       simp [loneG,lone,G] at this
      | succ r =>
       obtain ⟨m2,h2,_⟩:=runN_succ hr
       rw [loneG_ended hg' he] at h2
       cases h2
     rcases hpop with ⟨o,v',es,h⟩|⟨v',w',es,hb,⟨x,h1,_⟩|⟨ch,h1,_⟩⟩
     ·rw [show real fr [] k0 [floor]=G (fr.app k0) [floor] from rfl,loneG_ended rfl h] at hs1;cases hs1
     ·rw [show real fr [] k0 [floor]=G (fr.app k0) [floor] from rfl,loneG_go rfl rfl h1] at hs1
      obtain rfl:=Stepped.next.inj hs1
      exact hend _ _ _ rfl (floor_finish x v') hr1
     ·rw [show real fr [] k0 [floor]=G (fr.app k0) [floor] from rfl,loneG_go rfl rfl h1] at hs1
      obtain rfl:=Stepped.next.inj hs1
      exact hend _ _ _ rfl (floor_raise ch v') hr1
    ·obtain ⟨htd,hkk⟩:=hR.resolve_left hm
     have hk0':k0≠[]:=fun e=>hkk ⟨hk e,e⟩
     have hk0e:=hrf hk0'
     have hmr:fr.mode=.run:=Classical.byContradiction hm
     have he:∃ o v' es,stepG P true (real fr [] k0 [floor]) v=.ended o v' es:=by
      rw [hk0e]
      obtain ⟨f,tmps,todo,defers,mode,kind,round⟩:=fr
      dsimp only at hmr htd
      subst hmr htd
      exact ⟨_,_,_,rfl⟩
     obtain ⟨o,v',es,he⟩:=he
     rw [loneG_ended hreal he] at hs1;cases hs1
   ·have hN:(stepG P main (real fr above k base) ((chase P main (DL st sft) Stop (G (fr0.app k) base) w0 j).2.at (evil P main (DL st sft) Stop (chase P main (DL st sft) Stop (G (fr0.app k) base) w0 j).1 (chase P main (DL st sft) Stop (G (fr0.app k) base) w0 j).2))).wd≤((chase P main (DL st sft) Stop (G (fr0.app k) base) w0 j).2.at (evil P main (DL st sft) Stop (chase P main (DL st sft) Stop (G (fr0.app k) base) w0 j).1 (chase P main (DL st sft) Stop (G (fr0.app k) base) w0 j).2)).drawn+eats P main (DL st sft) Stop (G (fr0.app k) base) w0 j:=by
     rw [← hg]
     show _≤evil P main (DL st sft) Stop _ _+(_ - evil P main (DL st sft) Stop _ _)
     omega
    rcases step_all (base0:=[floor]) (main:=main) (main':=true) R hO hk0 hR (hl.at _) (N:=eats P main (DL st sft) Stop (G (fr0.app k) base) w0 j) (fun i q hi=>by rw [ht,hd];exact hτ' j i q hi) hN with ⟨o,v',es,h⟩|⟨fr',above',v',w',es,h1,h2,hb,hO'⟩
    ·rw [loneG_ended hreal h] at hs1;cases hs1
    ·obtain ⟨fr2,cs2,hreal'⟩:=lone_real fr' above' k0 [floor]
     rw [loneG_go hreal hreal' h1] at hs1
     obtain rfl:=Stepped.next.inj hs1
     have hrun':(chase P main (DL st sft) Stop (G (fr0.app k) base) w0 j).1.status=.running:=by rw [hg];exact real_running _ _ _ _
     have h2':=h2
     rw [← hg] at h2'
     have hch:chase P main (DL st sft) Stop (G (fr0.app k) base) w0 (j+1)=(real fr' above' k base,w'):=by simp only [chase,h2']
     obtain ⟨c,hdr⟩:=hb.drew
     have hbad:=evil_spec P main (DL st sft) Stop hrun' hM
     have hnm:¬ Must P main (DL st sft) Stop (real fr' above' k base) w':=fun hm=>hbad ⟨_,_,_,h2',⟨⟨hb.kept.same,hb.kept.size,hb.kept.new⟩,hb.off,hdr.all⟩,hm⟩
     refine ih (j+1) fr' above' v' (by rw [hch]) hO' (by rw [hch];exact hb.lk) (hdr.tv.trans ht) ?_ (by rw [hch];exact hnm) hr1
     show v'.drawn=places P main (DL st sft) Stop (G (fr0.app k) base) w0 j+eats P main (DL st sft) Stop (G (fr0.app k) base) w0 j
     have:eats P main (DL st sft) Stop (G (fr0.app k) base) w0 j=c:=by
      unfold eats
      rw [h2']
      show w'.drawn - _=c
      rw [hdr.dw]
      show evil P main (DL st sft) Stop _ _+c - evil P main (DL st sft) Stop _ _=c
      omega
     rw [hdr.dv,hd,this]
 exact key n 0 fr0 [] (frz sft w0 τ) rfl ⟨h0,fun c hc=>by cases hc⟩ (lk_frz hs hc τ) rfl rfl hno hn
end Go.Proofs.YtcgabodkegcpgaaDoor.Br
