/- The bridge: an operation of a function of the set S is tame, and yields a value, nothing, or enters a function of S. -/
import Derived.Test.YtcgabodkegcpgaaDoorTao
import Derived.Conc.Own
set_option linter.unusedVariables false
set_option linter.unusedSimpArgs false
set_option maxHeartbeats 20000000
set_option maxRecDepth 100000
namespace Go.Proofs.YtcgabodkegcpgaaDoor.Br
variable {P:Program} {W:Prop}
theorem t_get (t:TypeId)(x:Place):TT P W (x.get t):=by
 cases x with
 | val v=>exact trivial
 | var a=>exact t_loadVar _ _
theorem t_follow:∀ (l:List FieldStep) (t:TypeId) (x:Place),TT P W (follow l t x)
 | [],_,_=>trivial
 | s::rest,t,x=>by
  unfold follow
  repeat' first|(with_reducible first|exact t_rp _ _|exact t_pure _|exact t_stuck _|exact t_unsupported _|exact t_goPanic _|exact t_program|exact t_typeInfo _|exact t_underlying _|exact t_sizeOf _|exact t_runtimePanic _|exact t_asInt _|exact t_asIntOf _|exact t_asBool _|exact t_asAddr _|((with_reducible refine t_getObjB ?_ ?_ ?_);(exact fun _ _=>.inl rfl);(exact fun _ _=>.inl rfl))|exact t_choose _|exact t_loadVar _ _|exact t_shape _|exact t_get _ _|exact t_follow rest _ _|exact t_fieldPlace _ _|exact t_part _ _ _)|exact t_unsupported _|(refine t_bnd ?_ ?_)|(intro _)|(refine t_ite ?_ ?_)|split|dsimp only
theorem t_wrapNil (ts:Array TypeId)(t:TypeId)(vs:Array Value):TT P W (Builtin.ssaWrapNilChk_ ts t vs):=by
 unfold Builtin.ssaWrapNilChk_
 rcases vs with ⟨_|⟨x,_|⟨y,_|⟨z,_|⟨u,l⟩⟩⟩⟩⟩<;>first|exact t_stuck _|skip
 cases y<;>first|exact t_stuck _|skip
 cases z<;>first|exact t_stuck _|skip
 cases x<;>first|exact t_stuck _|skip
 rename_i a
 cases a with
 | some a=>exact t_pure _
 | none =>
 refine t_bnd (t_choose _) fun n=>?_
 repeat' first|(with_reducible first|exact t_rp _ _|exact t_pure _|exact t_stuck _|exact t_unsupported _|exact t_goPanic _|exact t_program|exact t_typeInfo _|exact t_underlying _|exact t_sizeOf _|exact t_runtimePanic _|exact t_asInt _|exact t_asIntOf _|exact t_asBool _|exact t_asAddr _|((with_reducible refine t_getObjB ?_ ?_ ?_);(exact fun _ _=>.inl rfl);(exact fun _ _=>.inl rfl))|exact t_choose _|exact t_loadVar _ _|exact t_shape _)|exact t_unsupported _|(refine t_bnd ?_ ?_)|(intro _)|(refine t_ite ?_ ?_)|split|dsimp only
theorem t_receiverAt (t:TypeId)(x:Place)(b:Bool)(n:Option String):TT P W (receiverAt t x b n):=by
 unfold receiverAt
 repeat' first|(with_reducible first|exact t_rp _ _|exact t_pure _|exact t_stuck _|exact t_unsupported _|exact t_goPanic _|exact t_program|exact t_typeInfo _|exact t_underlying _|exact t_sizeOf _|exact t_runtimePanic _|exact t_asInt _|exact t_asIntOf _|exact t_asBool _|exact t_asAddr _|((with_reducible refine t_getObjB ?_ ?_ ?_);(exact fun _ _=>.inl rfl);(exact fun _ _=>.inl rfl))|exact t_choose _|exact t_loadVar _ _|exact t_shape _|exact t_get _ _|exact t_wrapNil _ _ _)|exact t_unsupported _|(refine t_bnd ?_ ?_)|(intro _)|(refine t_ite ?_ ?_)|split|dsimp only
def MethOk (P:Program)(C:FuncId→Prop)(name:String):Prop :=
 ∀ t i m f b,P.info? t=some i→i.methods.find? (·.name == name)=some m→m.func=some (f,b)→C f
theorem t_method {C:FuncId→Prop}{name:String}(h:MethOk P C name):∀ (n:Nat) (t:TypeId) (v:Value),Tame P W (fun r=>C r.1) (method n t v name)
 | 0,_,_=>t_unsupported _
 | n+1,t,v=>by
  unfold method
  refine t_info fun i hi=>?_
  split
  ·rename_i m hm
   refine t_bnd (t_follow _ _ _) fun r=>?_
   split
   split
   ·refine t_bnd (t_get _ _) fun y=>?_
    split
    ·exact t_method h n _ _
    ·exact t_runtimePanic _
    ·exact t_stuck _
   ·rename_i f b hf
    exact t_bind (t_receiverAt _ _ _ _) fun _ _=>h t i m f b hi hm hf
  ·exact t_stuck _
def Comesto (S:FuncId→Prop):Next→Prop
 | .value _=>True
 | .skip=>True
 | .enter f _=>S f
 | _=>False
def CallOk (P:Program)(S:FuncId→Prop)(f:FuncId):Prop :=
 ∃ fn,P.funcs[f]?=some fn∧(fn.name == "runtime.NumGoroutine")=false ∧
  ((fn.body.isNone=false∧S f)∨(fn.body.isNone=true∧Extern.findNext fn=none∧Extern.find fn=none∧(fn.name.endsWith ".init" && !fn.name.startsWith "(" && !fn.name.startsWith "gosem.")=false))
theorem t_callFunc {S:FuncId→Prop}{f:FuncId}(h:CallOk P S f)(args:Array Value):Tame P W (Comesto S) (callFunc f args):=by
 obtain ⟨fn,hf,hn,h⟩:=h
 show Tame P W (Comesto S) (match P.funcs[f]? with
  | none=>stuck "call: no such function"
  | some fn=>_)
 rw [hf]
 dsimp only
 rw [hn]
 simp only [Bool.false_eq_true,if_false]
 rcases h with ⟨h1,h2⟩|⟨h1,h2,h3,h4⟩
 ·rw [h1]
  simp only [Bool.false_eq_true,if_false]
  exact h2
 ·rw [h1]
  simp only [if_true]
  refine ⟨by simp,by simp,?_⟩
  rw [h2,h3]
  dsimp only
  rw [h4]
  exact t_unsupported _
theorem t_callMethod {S:FuncId→Prop}{name:String}(h:MethOk P (CallOk P S) name)(recv:Value)(args:Array Value):Tame P W (Comesto S) (callMethod recv name args):=by
 unfold callMethod
 split
 ·exact t_prog (t_bind (t_method h _ _ _) fun r hr=>t_callFunc hr _)
 ·exact t_runtimePanic _
 ·exact t_stuck _
variable {P:Program} {W:Prop}
theorem t_followBlind:∀ (l:List FieldStep) (t:TypeId) (x:Option Value),TT P W (followBlind l t x)
 | [],_,_=>trivial
 | s::rest,t,x=>by
  unfold followBlind
  repeat' first|(with_reducible first|exact t_rp _ _|exact t_pure _|exact t_stuck _|exact t_unsupported _|exact t_goPanic _|exact t_program|exact t_typeInfo _|exact t_underlying _|exact t_sizeOf _|exact t_runtimePanic _|exact t_asInt _|exact t_asIntOf _|exact t_asBool _|exact t_asAddr _|((with_reducible refine t_getObjB ?_ ?_ ?_);(exact fun _ _=>.inl rfl);(exact fun _ _=>.inl rfl))|exact t_choose _|exact t_loadVar _ _|exact t_shape _|exact t_followBlind rest _ _|exact t_part _ _ _)|exact t_unsupported _|(refine t_bnd ?_ ?_)|(intro _)|(refine t_ite ?_ ?_)|split|dsimp only
theorem t_nilAhead:∀ (n:Nat) (t:TypeId) (v:Value) (name:String),TT P W (nilAhead n t v name)
 | 0,_,_,_=>trivial
 | n+1,t,v,name=>by
  unfold nilAhead
  repeat' first|(with_reducible first|exact t_rp _ _|exact t_pure _|exact t_stuck _|exact t_unsupported _|exact t_goPanic _|exact t_program|exact t_typeInfo _|exact t_underlying _|exact t_sizeOf _|exact t_runtimePanic _|exact t_asInt _|exact t_asIntOf _|exact t_asBool _|exact t_asAddr _|((with_reducible refine t_getObjB ?_ ?_ ?_);(exact fun _ _=>.inl rfl);(exact fun _ _=>.inl rfl))|exact t_choose _|exact t_loadVar _ _|exact t_shape _|exact t_followBlind _ _ _|exact t_nilAhead n _ _ _)|exact t_unsupported _|(refine t_bnd ?_ ?_)|(intro _)|(refine t_ite ?_ ?_)|split|dsimp only
def okOp (P:Program)(S:FuncId→Bool)(meths:List String)(st:Bool)(o:Op):Bool :=
 match o with
 | .alloc _|.store _ _ _=>st
 | .move _|.assign _|.pick _ _ _|.box _ _|.build _ _|.buildSlice _ _ _|.load _ _|.makeChan _ _|.unOp _ _ _|.makeInterface _ _|.makeSlice _ _ _|.slice _ _ _ _ _|.fieldAddr _ _ _|.field _ _ _|.indexAddr _ _ _|.index _ _ _|.typeAssert _ _ _ _|.extract _ _|.nilCheck _=>true
 | .binOp op t _ y _=>(match op with|.eql|.neq=>false|_=>true) || eqPlain P 10 t || ((match P.underlying t with|some (.pointer _)=>true|_=>false) && (match y with|.const (.pointer none)=>true|_=>false))
 | .call { callee:=.builtin b,.. }=>(match b with|.len|.cap=>true|.append|.copy=>st|_=>false)
 | .call { callee:=.invoke _ m,.. }=>meths.contains m
 | .call { callee:=.value (.func f),.. }=>S f
 | _=>false
theorem t_val {Sp:FuncId→Prop}{s:Sem Value}(h:TT P W s):Tame P W (Comesto Sp) (do pure (.value (← s))):=t_bind h fun _ _=>trivial
theorem t_unit {Sp:FuncId→Prop}{s:Sem Unit}(h:TT P W s):Tame P W (Comesto Sp) (do s;pure .skip):=t_bind h fun _ _=>trivial
theorem t_execOp {S:FuncId→Bool}{meths:List String}{st:Bool}(hst:st=true→W)(hS:∀ f,S f=true→CallOk P (fun f=>S f=true) f)(hM:∀ m∈meths,MethOk P (CallOk P (fun f=>S f=true)) m)
  {ρ:Operand→Value}(hc:∀ v,ρ (.const v)=v)(hf:∀ f,ρ (.func f)=.func (.func f) #[] #[])(o:Oper)(h:okOp P S meths st o.op=true):Tame P W (Comesto (fun f=>S f=true)) (execOp ρ o):=by
 unfold execOp
 cases e:o.op<;>rw [e] at h<;>first|cases h|dsimp only
 case move x=>exact trivial
 case assign x=>exact trivial
 case pick c a b=>exact t_bnd (t_asBool _) fun _=>trivial
 case alloc t=>exact t_val (t_alloc (hst rfl) _ _ _)
 case box t x=>exact t_val (t_box _ _)
 case build t ps=>exact t_val (t_build _ _)
 case buildSlice t n ps=>exact t_val (t_buildSlice _ _ _)
 case load t a=>exact t_val (t_loadAt _ _)
 case store t a x=>exact t_unit (t_storeAt (hst rfl) _ _ _)
 case makeChan t x=>exact t_val (t_makeChan _ _)
 case nilCheck x =>
  dsimp only
  split
  ·exact t_runtimePanic _
  ·exact t_runtimePanic _
  ·exact t_runtimePanic _
  ·split
   ·exact t_runtimePanic _
   ·refine t_bnd t_program fun p=>t_bnd (t_nilAhead _ _ _ _) fun b=>?_
    split
    ·exact t_unsupported _
    ·exact trivial
   ·exact trivial
  ·exact trivial
 case binOp op t x y u =>
  refine t_val (t_bnd (t_eqGuard _ _ _ _ _ _) fun _=>t_binOp _ _ _ _ fun x' hop=>?_)
  unfold okOp at h
  dsimp only at h
  rw [Bool.or_eq_true,Bool.or_eq_true,Bool.and_eq_true] at h
  rcases h with (h|h)|⟨h1,h2⟩
  ·rcases hop with rfl|rfl<;>cases h
  ·exact t_equalIn 10 t h _ _ _
  ·split at h1
   ·rename_i e' hu
    split at h2
    ·rw [hc];exact t_equalNil _ _ _ hu _
    ·cases h2
   ·cases h1
 case unOp op t x=>exact t_val (t_unary _ _)
 case makeInterface t x=>exact t_val (t_makeInterface _ _)
 case makeSlice t l c=>exact t_val (t_makeSlice _ _ _)
 case slice t x a b c=>exact t_val (t_sliceAt _ _ _ _ _)
 case fieldAddr t x i=>exact t_val (t_fieldAt _ _ _)
 case field t x i=>exact t_val (t_field _ _ _)
 case indexAddr t x i=>exact t_val (t_indexAt _ _ _)
 case index t x i=>exact t_val (t_index _ _ _)
 case typeAssert x t u b=>exact t_val (t_typeAssert _ _ _ _)
 case extract x i=>exact t_val (t_extract _ _)
 case call c =>
  obtain ⟨callee,args,ats⟩:=c
  cases callee with
  | builtin b =>
   show Tame P W _ (builtin b ats o.type _ _)
   cases b<;>first|cases h|skip
   ·exact t_val (t_append (hst rfl) _ _ _)
   ·exact t_val (t_cap _ _ _)
   ·exact t_val (t_copy (hst rfl) _ _ _)
   ·exact t_val (t_len _ _ _)
  | invoke r m =>
   have hm:m∈meths:=by simpa [okOp] using h
   show Tame P W _ (invoke (.fn (.method m) #[]) (#[ρ r] ++ args.map ρ))
   unfold invoke
   dsimp only
   split
   ·exact t_callMethod (hM m hm) _ _
   ·exact t_stuck _
  | value f =>
   cases f with
   | func f =>
    show Tame P W _ (Deferred.ofValue (ρ (.func f)) _ >>= _)
    rw [hf]
    exact t_callFunc (hS f h) _
   | _=>cases h
variable {P:Program} {S:FuncId→Bool} {meths:List String} {st:Bool} {sft:Nat→Nat}
def okCode (P:Program)(S:FuncId→Bool)(meths:List String)(st:Bool):Code→Bool
 | .skip|.exit _|.ret|.label _=>true
 | .region _ ops _=>ops.all fun o=>okOp P S meths st o.op
 | .seq a b=>okCode P S meths st a && okCode P S meths st b
 | .cond _ a b=>okCode P S meths st a && okCode P S meths st b
 | .block _ a=>okCode P S meths st a
 | .loop a=>okCode P S meths st a
 | _=>false
def okItem (P:Program)(S:FuncId→Bool)(meths:List String)(st:Bool):Item→Prop
 | .code c=>okCode P S meths st c=true
 | .inBlock _=>True
 | .inLoop c=>okCode P S meths st c=true
 | .inRegion ops _=>(ops.all fun o=>okOp P S meths st o.op)=true
 | _=>False
structure Rules (P:Program) (S:FuncId→Bool) (meths:List String) (st:Bool):Prop where
 body:∀ f,S f=true→∃ fn c,P.funcs[f]?=some fn∧(fn.name == "runtime.NumGoroutine")=false∧fn.body=some c∧okCode P S meths st c=true
 meth:∀ m∈meths,MethOk P (CallOk P (fun f=>S f=true)) m
theorem Rules.call (h:Rules P S meths st)(f:FuncId)(hf:S f=true):CallOk P (fun f=>S f=true) f:=by
 obtain ⟨fn,c,h1,h2,h3,_⟩:=h.body f hf
 exact ⟨fn,h1,h2,.inl ⟨by rw [h3];rfl,hf⟩⟩
structure OkF (P:Program) (S:FuncId→Bool) (meths:List String) (st:Bool) (fr:Frame):Prop where
 kind:fr.kind=.normal
 round:fr.roundOf=none
 defers:fr.defers=[]
 fn:∃ fn,P.funcs[fr.fn]?=some fn
 todo:∀ x∈fr.todo,okItem P S meths st x
theorem OkF.enter (h:Rules P S meths st){f:FuncId}(hf:S f=true)(args:Array Value):OkF P S meths st (Frame.enter P f args .normal):=by
 obtain ⟨fn,c,h1,_,h3,h4⟩:=h.body f hf
 refine ⟨rfl,rfl,rfl,⟨fn,h1⟩,fun x hx=>?_⟩
 simp only [Frame.enter,h1,Option.bind_some,h3,Option.getD_some,List.mem_cons,List.not_mem_nil,or_false] at hx
 subst hx
 exact h4
theorem OkF.raise {fr:Frame}(h:OkF P S meths st fr)(chain:List PanicEntry):OkF P S meths st (fr.raise chain):=by
 unfold Frame.raise
 split<;>exact ⟨h.kind,h.round,h.defers,h.fn,h.todo⟩
theorem OkF.put {fr:Frame}(h:OkF P S meths st fr){todo:List Item}(ht:∀ x∈todo,okItem P S meths st x)(tmps:Array Value)(m:FrameMode):OkF P S meths st { fr with tmps:=tmps,todo:=todo,mode:=m } :=
 ⟨h.kind,h.round,h.defers,h.fn,ht⟩
theorem OkF.finish {fr:Frame}(h:OkF P S meths st fr)(v:Value):OkF P S meths st (fr.finish v):=by
 have ht:=h.todo
 unfold Frame.finish
 split
 ·rename_i ops i rest k e
  rw [e] at ht
  refine ⟨h.kind,h.round,h.defers,h.fn,fun x hx=>?_⟩
  rcases List.mem_cons.1 hx with rfl|hx
  ·exact ht (.inRegion ops (i::rest)) (List.mem_cons_self ..)
  ·exact ht _ (List.mem_cons_of_mem _ hx)
 ·rename_i e;rw [e] at ht;exact (ht _ (List.mem_cons_self ..)).elim
 ·rename_i e;rw [e] at ht;exact (ht _ (List.mem_cons_self ..)).elim
 ·rename_i e;rw [e] at ht;exact (ht _ (List.mem_cons_self ..)).elim
 ·rename_i e;rw [e] at ht;exact (ht _ (List.mem_cons_self ..)).elim
 ·exact h
def _root_.Go.GStep.wd:GStep→Nat
 | .go _ w _=>w.drawn
 | .ended _ w _=>w.drawn
 | _=>0
theorem wd_after (es:Array Event)(s:GStep):(GStep.after es s).wd=s.wd:=by cases s<;>rfl
theorem mem_seen {fn:FuncId}{es:Array Event}{e:Event}(h:e∈seen P fn es):e∈es:=by
 have key:∀ (l:List Event) (x:Bool × Array Event),e∈(l.foldl (fun (x:Bool × Array Event) e =>
   match e.loc with
   | .mark (.extern f)=>((P.funcs[f]?).any (·.norace),x.2)
   | _=>(x.1,if x.1 && !e.sync then x.2 else x.2.push e)) x).2→e∈x.2∨e∈l:=by
  intro l
  induction l with
  | nil=>exact fun x h=>.inl h
  | cons a l ih =>
   intro x h
   simp only [List.foldl_cons] at h
   rcases ih _ h with h|h
   ·split at h
    ·exact .inl h
    ·dsimp only at h
     split at h
     ·exact .inl h
     ·rcases Array.mem_push.1 h with h|rfl
      ·exact .inl h
      ·exact .inr (List.mem_cons_self ..)
   ·exact .inr (List.mem_cons_of_mem _ h)
 dsimp only [seen] at h
 rw [← Array.foldl_toList] at h
 rcases key es.toList _ h with h|h
 ·simp at h
 ·exact Array.mem_toList_iff.1 h
structure Both (st:Bool) (sft:Nat→Nat) (v v' w w':World) (es:Array Event):Prop where
 lk:Lk sft v' w'
 kept:Kept sft w w'
 off:∀ e∈es,Off sft (st=true) w'.heap.size e
 drew:∃ c,Drew c v v' w w'
theorem Both.still {v w:World}(h:Lk sft v w):Both st sft v v w w #[]:=⟨h,.refl _ _,fun e he=>by simp at he,0,.zero _ _⟩
theorem choose_drawn {w w':World}{q:Question}{n:Nat}(h:(choose q).run P w=.ok n w'):w.drawn≤w'.drawn:=by
 simp only [choose,Sem.run] at h
 split at h
 ·obtain ⟨_,rfl⟩:=Result.ok.inj h;exact Nat.le_refl _
 ·obtain ⟨_,rfl⟩:=Result.ok.inj h;exact Nat.le_succ _
theorem choose_halt {w w':World}{q:Question}{x:Halt}(h:(choose q).run P w=.halt x w'):w.drawn≤w'.drawn:=by
 simp only [choose,Sem.run] at h
 split at h<;>cases h
theorem early_wd {fr:Frame}{cs:List Frame}{dy:Option Dying}{g:Nat}{w:World}:w.drawn≤(early P fr cs dy g w).wd:=by
 unfold early
 dsimp only
 repeat' split
 all_goals first
  | exact Nat.le_refl _
  | (simp only [GStep.wd];exact choose_drawn (P:=P) (by assumption:(choose (.early g)).run P w=.ok _ _))
  | (simp only [GStep.wd];rename_i hh;exact choose_drawn (P:=P) hh)
  | (simp only [GStep.wd];rename_i hh;exact choose_halt (P:=P) hh)
  | (simp only [GStep.wd];rename_i hh _;exact choose_drawn (P:=P) hh)
  | (simp only [GStep.wd];rename_i hh _ _;exact choose_drawn (P:=P) hh)
  | (simp only [GStep.wd];rename_i hh _ _ _;exact choose_drawn (P:=P) hh)
  | (simp only [GStep.wd];rename_i hh _ _ _ _;exact choose_drawn (P:=P) hh)
open Go.Conc (G)
def _root_.Go.Frame.app (fr:Frame)(k:List Item):Frame:={ fr with todo:=fr.todo ++ k }
theorem apply_sim {fr:Frame}(hF:OkF P S meths st fr){s:Sem Next}(hs:Tame P (st=true) (Comesto (fun f=>S f=true)) s){v w:World}(hl:Lk sft v w){N:Nat}(hw:Win N v w){cs cs':List Frame}{kk kk':List Item}
    (hN:(stepG.apply P true (fr.app kk) cs none s w).wd≤w.drawn+N){ops:Array Oper}{l:List Nat}{k:List Item}(ht:fr.todo=.inRegion ops l::k) :
    (∃ o v' es,stepG.apply P true (fr.app kk') cs' none s v=.ended o v' es)∨∃ v' w' es,Both st sft v v' w w' es ∧
      ((∃ x,stepG.apply P true (fr.app kk') cs' none s v=.go (G ((fr.app kk').finish x) cs') v' es∧stepG.apply P true (fr.app kk) cs none s w=.go (G ((fr.app kk).finish x) cs) w' es) ∨
       (∃ f args,S f=true∧stepG.apply P true (fr.app kk') cs' none s v=.go (G (Frame.enter P f args .normal) (fr.app kk'::cs')) v' es∧stepG.apply P true (fr.app kk) cs none s w=.go (G (Frame.enter P f args .normal) (fr.app kk::cs)) w' es) ∨
       (∃ ch,stepG.apply P true (fr.app kk') cs' none s v=.go (G ((fr.app kk').raise ch) cs') v' es∧stepG.apply P true (fr.app kk) cs none s w=.go (G ((fr.app kk).raise ch) cs) w' es)):=by
  obtain ⟨fn,tmps,todo,defers,mode,kind,round⟩:=fr
  obtain rfl:todo=.inRegion ops l::k:=ht
  dsimp only [Frame.app,List.cons_append] at hN ⊢
  have hearly:(kind == CallKind.early)=false:=by rw [show kind=.normal from hF.kind];rfl
  have hNr:(s.runT P w #[]).1.world.drawn≤w.drawn+N:=by
    revert hN
    unfold stepG.apply
    rcases t_ends P s (st=true) _ w #[] hs with ⟨a,w',es',e,hp⟩|⟨x,w',es',e⟩|⟨x,w',es',e,hb⟩
    · simp only [if_true,e,wd_after]
      cases a<;>first|exact hp.elim|exact id
    · simp only [if_true,e,wd_after]
      exact id
    · simp only [if_true,e,wd_after]
      rcases hb with hb|⟨g,rfl⟩
      · cases x with
        | unsupported u=>cases u<;>first|exact hb.elim|exact id
        | _=>first|exact hb.elim|exact id
      · exact fun h=>Nat.le_trans early_wd h
  have key:=lk_run P s (st=true) _ (v:=v) (w:=w) #[] N hs hl hw hNr
  unfold stepG.apply
  simp only [if_true,hearly,Bool.false_eq_true,if_false]
  revert key
  generalize s.runT P v #[]=rv
  generalize s.runT P w #[]=rw'
  intro key
  have offs:∀ {es':Array Event} {n:Nat},Lists sft (st=true) n #[] es'→∀ e∈seen P fn es' ++ #[],Off sft (st=true) n e:=fun hli e he=>by
    rw [Array.append_empty] at he
    rcases hli e (mem_seen he) with h|h
    · simp at h
    · exact h
  cases key with
  | @ok a v' w' es' c hp h1 h2 h3 h4 =>
    refine .inr ⟨v',w',seen P fn es' ++ #[],⟨h1,h2,offs h3,c,h4⟩,?_⟩
    cases a with
    | value x=>exact .inl ⟨x,rfl,rfl⟩
    | skip=>exact .inl ⟨undef,rfl,rfl⟩
    | enter f args=>exact .inr (.inl ⟨f,args,hp,rfl,rfl⟩)
    | _=>exact hp.elim
  | @panic x v' w' es' c h1 h2 h3 h4 =>
    exact .inr ⟨v',w',seen P fn es' ++ #[],⟨h1,h2,offs h3,c,h4⟩,.inr (.inr ⟨_,rfl,rfl⟩)⟩
  | @lost x v' es' r hb =>
    refine .inl ?_
    cases x with
    | unsupported u=>cases u<;>first|exact hb.elim|exact ⟨_,_,_,rfl⟩
    | stuck m=>exact ⟨_,_,_,rfl⟩
    | _=>exact hb.elim
variable {P:Program} {S:FuncId→Bool} {meths:List String} {st:Bool} {sft:Nat→Nat}
open Go.Conc (G)
theorem t_results (fn:Func)(tmps:Array Value):TT P (st=true) (results fn tmps):=by
 unfold results
 refine t_bnd (t_mapM _ (fun r=>?_) _) fun _=>trivial
 split
 ·exact trivial
 ·exact t_bnd (t_asAddr _) fun _=>t_loadVar _ _
theorem app_nil (fr:Frame):fr.app []=fr:=by cases fr;simp [Frame.app]
theorem app_eval (fr:Frame)(k:List Item):(fr.app k).eval=fr.eval:=by funext x;cases x<;>rfl
theorem app_raise (fr:Frame)(k:List Item)(ch:List PanicEntry):(fr.app k).raise ch=(fr.raise ch).app k:=by
 cases fr with|mk a b c d m e f=>cases m<;>rfl
def Susp (fr:Frame):Prop:=∃ ops i rest t,fr.todo=.inRegion ops (i::rest)::t
theorem app_finish {fr:Frame}(h:Susp fr)(k:List Item)(x:Value):(fr.app k).finish x=(fr.finish x).app k:=by
 obtain ⟨ops,i,rest,t,h⟩:=h
 cases fr with
 | mk a b c d m e f =>
  obtain rfl:c=_:=h
  rfl
theorem okItems_exit {id:Nat}:∀ {k k':List Item},(∀ x∈k,okItem P S meths st x)→exitTo id k=some k'→∀ x∈k',okItem P S meths st x
 | [],_,_,h=>by cases h
 | y::k,k',hk,h=>by
  have hk':∀ x∈k,okItem P S meths st x:=fun x hx=>hk x (List.mem_cons_of_mem _ hx)
  cases y with
  | inBlock id' =>
   unfold exitTo at h
   split at h
   ·obtain rfl:=Option.some.inj h;exact hk'
   ·exact okItems_exit hk' h
  | _=>exact okItems_exit hk' h
theorem exitTo_app {id:Nat}{kk:List Item}:∀ {k k':List Item},exitTo id k=some k'→exitTo id (k ++ kk)=some (k' ++ kk)
 | [],_,h=>by cases h
 | y::k,k',h=>by
  cases y with
  | inBlock id' =>
   unfold exitTo at h
   simp only [List.cons_append,exitTo]
   split at h
   ·rename_i e;obtain rfl:=Option.some.inj h;simp only [e,if_true]
   ·rename_i e;simp only [e,if_false];exact exitTo_app h
  | _=>exact exitTo_app (k:=k) h
theorem exitTo_none {id:Nat}{kk:List Item}(hk:exitTo id kk=none):∀ {k:List Item},exitTo id k=none→exitTo id (k ++ kk)=none
 | [],_=>hk
 | y::k,h=>by
  cases y with
  | inBlock id' =>
   unfold exitTo at h
   simp only [List.cons_append,exitTo]
   split at h
   ·cases h
   ·rename_i e;simp only [e,if_false];exact exitTo_none hk h
  | _=>exact exitTo_none hk (k:=k) h
def Goes1 (P:Program)(S:FuncId→Bool)(meths:List String)(st:Bool)(sft:Nat→Nat)(fr:Frame)(kk kk':List Item)(cs cs':List Frame)(v w:World)(s s':GStep):Prop :=
 ∃ fr' v' w' es,Both st sft v v' w w' es∧OkF P S meths st fr' ∧
  ((s'=.go (G (fr'.app kk') cs') v' es∧s=.go (G (fr'.app kk) cs) w' es)∨(Susp fr∧s'=.go (G fr' (fr.app kk'::cs')) v' es∧s=.go (G fr' (fr.app kk::cs)) w' es))
theorem sim_to {fr:Frame}{kk kk':List Item}{cs cs':List Frame}{v w:World}(hl:Lk sft v w){s s':GStep}{fr':Frame}(hF':OkF P S meths st fr')(h:s=.go (G (fr'.app kk) cs) w #[])(h':s'=.go (G (fr'.app kk') cs') v #[]) :
  (∃ o v' es,s'=.ended o v' es)∨Goes1 P S meths st sft fr kk kk' cs cs' v w s s' :=
 .inr ⟨fr',v,w,#[],.still hl,hF',.inl ⟨h',h⟩⟩
theorem run_sim (R:Rules P S meths st){fr:Frame}(hF:OkF P S meths st fr){kk kk':List Item}{cs cs':List Frame}(hm:fr.mode=.run)(hne:fr.todo≠[]∨kk=[]∧kk'=[])(hkk':∀ id,exitTo id kk'=none){v w:World}(hl:Lk sft v w){N:Nat}(hw:Win N v w){main main':Bool}
  (hN:(stepG P main (G (fr.app kk) cs) w).wd≤w.drawn+N) :
  (∃ o v' es,stepG P main' (G (fr.app kk') cs') v=.ended o v' es)∨Goes1 P S meths st sft fr kk kk' cs cs' v w (stepG P main (G (fr.app kk) cs) w) (stepG P main' (G (fr.app kk') cs') v):=by
 have hF0:=hF
 obtain ⟨f,tmps,todo,defers,mode,kind,round⟩:=fr
 obtain ⟨hkind,hround,hdefers,⟨fn,hfn⟩,htodo⟩:=hF
 dsimp only at hkind hround hdefers hfn htodo hm hne
 subst hkind hround hdefers hm
 cases todo with
 | nil =>
  obtain ⟨rfl,rfl⟩:kk=[]∧kk'=[]:=hne.elim (fun h=>absurd rfl h) id
  exact sim_to hl (fr':={ fn:=f,tmps,todo:=[],defers:=[],mode:=.returning,kind:=.normal }) ⟨rfl,rfl,rfl,⟨fn,hfn⟩,htodo⟩ rfl rfl
 | cons x k =>
  have hx:=htodo x (List.mem_cons_self ..)
  have hk:∀ y∈k,okItem P S meths st y:=fun y hy=>htodo y (List.mem_cons_of_mem _ hy)
  have mk:∀ {todo':List Item},(∀ y∈todo',okItem P S meths st y)→OkF P S meths st { fn:=f,tmps,todo:=todo',defers:=[],mode:=.run,kind:=.normal }:=fun h=>⟨rfl,rfl,rfl,⟨fn,hfn⟩,h⟩
  cases x with
  | code c =>
   cases c with
   | skip=>exact sim_to hl (mk hk) rfl rfl
   | label l=>exact sim_to hl (mk hk) rfl rfl
   | ret=>exact sim_to hl (fr':={ fn:=f,tmps,todo:=.code .ret::k,defers:=[],mode:=.returning,kind:=.normal }) ⟨rfl,rfl,rfl,⟨fn,hfn⟩,htodo⟩ rfl rfl
   | seq a b =>
    have hab:okCode P S meths st a=true∧okCode P S meths st b=true:=by simpa [okItem,okCode] using hx
    refine sim_to hl (mk (todo':=.code a::.code b::k) fun y hy=>?_) rfl rfl
    rcases List.mem_cons.1 hy with rfl|hy
    ·exact hab.1
    ·rcases List.mem_cons.1 hy with rfl|hy
     ·exact hab.2
     ·exact hk y hy
   | block id a =>
    refine sim_to hl (mk (todo':=.code a::.inBlock id::k) fun y hy=>?_) rfl rfl
    rcases List.mem_cons.1 hy with rfl|hy
    ·exact hx
    ·rcases List.mem_cons.1 hy with rfl|hy
     ·exact trivial
     ·exact hk y hy
   | loop a =>
    refine sim_to hl (mk (todo':=.code a::.inLoop a::k) fun y hy=>?_) rfl rfl
    rcases List.mem_cons.1 hy with rfl|hy
    ·exact hx
    ·rcases List.mem_cons.1 hy with rfl|hy
     ·exact hx
     ·exact hk y hy
   | cond c a b =>
    have hab:okCode P S meths st a=true∧okCode P S meths st b=true:=by simpa [okItem,okCode] using hx
    cases e:Frame.eval { fn:=f,tmps,todo:=.code (.cond c a b)::k,defers:=[],mode:=.run,kind:=.normal } c with
    | bool t =>
     refine sim_to hl (mk (todo':=.code (if t then a else b)::k) fun y hy=>?_) (by
      have e':Frame.eval { fn:=f,tmps,todo:=.code (.cond c a b)::(k ++ kk),defers:=[],mode:=.run,kind:=.normal } c=.bool t:=e
      simp only [stepG,G,stepG.exec,Frame.app,List.cons_append,e']) (by
      have e':Frame.eval { fn:=f,tmps,todo:=.code (.cond c a b)::(k ++ kk'),defers:=[],mode:=.run,kind:=.normal } c=.bool t:=e
      simp only [stepG,G,stepG.exec,Frame.app,List.cons_append,e'])
     rcases List.mem_cons.1 hy with rfl|hy
     ·cases t
      ·exact hab.2
      ·exact hab.1
     ·exact hk y hy
    | _ =>
     refine .inl ⟨.stuck "cond: bool expected" (Frame.pos P (Frame.app { fn:=f,tmps,todo:=.code (.cond c a b)::k,defers:=[],mode:=.run,kind:=.normal } kk')),v,#[],?_⟩
     have e':=(congrFun (app_eval { fn:=f,tmps,todo:=.code (.cond c a b)::k,defers:=[],mode:=.run,kind:=.normal } kk') c).trans e
     simp only [Frame.app,List.cons_append] at e'
     simp only [stepG,G,stepG.exec,Frame.app,List.cons_append,e']
   | exit id =>
    cases e:exitTo id k with
    | none=>exact .inl ⟨_,_,_,by simp only [stepG,G,stepG.exec,Frame.app,List.cons_append,exitTo_none (hkk' id) e,Option.elim_none];rfl⟩
    | some k'=>exact sim_to hl (mk (okItems_exit hk e)) (by simp only [stepG,G,stepG.exec,Frame.app,List.cons_append,exitTo_app e,Option.elim_some]) (by simp only [stepG,G,stepG.exec,Frame.app,List.cons_append,exitTo_app e,Option.elim_some])
   | region id ops draw =>
    have hops:∀ l,∀ y∈Item.inRegion ops l::k,okItem P S meths st y:=fun l y hy=>by
     rcases List.mem_cons.1 hy with rfl|hy
     ·exact hx
     ·exact hk y hy
    cases draw with
    | false=>exact sim_to hl (mk (hops _)) rfl rfl
    | true =>
     have e1:∀ (m:Bool) (cs:List Frame) (u:World) (k:List Item),stepG P m (G { fn:=f,tmps,todo:=.code (.region id ops true)::k,defers:=[],mode:=.run,kind:=.normal } cs) u =
       .go (G { fn:=f,tmps,todo:=.inRegion ops (Region.schedule (P.follows .mixedOrders) ops (u.tape u.drawn (.order f id)))::k,defers:=[],mode:=.run,kind:=.normal } cs) { u with drawn:=u.drawn+1 } #[]:=fun m cs u k=>rfl
     have e2:stepG P main (G (Frame.app { fn:=f,tmps,todo:=.code (.region id ops true)::k,defers:=[],mode:=.run,kind:=.normal } kk) cs) w=_:=e1 main cs w (k ++ kk)
     rw [e2] at hN
     have hN1:0<N:=by
      have:w.drawn+1≤w.drawn+N:=hN
      omega
     have et:v.tape v.drawn (.order f id)=w.tape w.drawn (.order f id):=hw 0 _ hN1
     exact .inr ⟨_,{ v with drawn:=v.drawn+1 },{ w with drawn:=w.drawn+1 },#[],⟨⟨hl.heap,hl.soft,hl.sight,hl.os,hl.output⟩,(.of_heap _ rfl),fun e he=>by simp at he,1,⟨rfl,rfl,rfl,rfl,rfl,rfl⟩⟩,mk (hops _),.inl ⟨e1 main' cs' v (k ++ kk'),by rw [e2,et];rfl⟩⟩
   | rangeFunc a b c d=>cases hx
   | scope a=>cases hx
   | goto l=>cases hx
   | refuse m=>cases hx
  | inBlock id=>exact sim_to hl (mk hk) rfl rfl
  | inLoop a =>
   refine sim_to hl (mk (todo':=.code a::.inLoop a::k) fun y hy=>?_) rfl rfl
   rcases List.mem_cons.1 hy with rfl|hy
   ·exact hx
   ·rcases List.mem_cons.1 hy with rfl|hy
    ·exact hx
    ·exact hk y hy
  | inRegion ops l =>
   cases l with
   | nil=>exact sim_to hl (mk hk) rfl rfl
   | cons i l =>
    cases e:((ops[i]?).map (Region.wanted · (yielded ops tmps))).getD false with
    | false =>
     refine sim_to hl (fr':=Frame.finish { fn:=f,tmps,todo:=.inRegion ops (i::l)::k,defers:=[],mode:=.run,kind:=.normal } undef) (hF0.finish _) ?_ ?_
     ·rw [← app_finish ⟨_,_,_,_,rfl⟩]
      simp only [stepG,G,stepG.exec,Frame.app,List.cons_append,e,Bool.false_eq_true,if_false]
     ·rw [← app_finish ⟨_,_,_,_,rfl⟩]
      simp only [stepG,G,stepG.exec,Frame.app,List.cons_append,e,Bool.false_eq_true,if_false]
    | true =>
     cases ho:ops[i]? with
     | none=>rw [ho] at e;cases e
     | some o =>
      have e1:∀ (m:Bool) (cs:List Frame) (u:World) (k:List Item),stepG P m (G { fn:=f,tmps,todo:=.inRegion ops (i::l)::k,defers:=[],mode:=.run,kind:=.normal } cs) u =
        stepG.apply P true { fn:=f,tmps,todo:=.inRegion ops (i::l)::k,defers:=[],mode:=.run,kind:=.normal } cs none (execOp (Frame.eval { fn:=f,tmps,todo:=.inRegion ops (i::l)::k,defers:=[],mode:=.run,kind:=.normal }) o) u:=fun m cs u k=>by
       have e':=e
       rw [ho] at e'
       simp only [stepG,G,stepG.exec,stepG.oper,Frame.oper?,ho,e',if_true]
      have e2:∀ (m:Bool) (cs:List Frame) (u:World) (kk:List Item),stepG P m (G (Frame.app { fn:=f,tmps,todo:=.inRegion ops (i::l)::k,defers:=[],mode:=.run,kind:=.normal } kk) cs) u =
        stepG.apply P true (Frame.app { fn:=f,tmps,todo:=.inRegion ops (i::l)::k,defers:=[],mode:=.run,kind:=.normal } kk) cs none (execOp (Frame.eval { fn:=f,tmps,todo:=.inRegion ops (i::l)::k,defers:=[],mode:=.run,kind:=.normal }) o) u:=fun m cs u kk=>by
       rw [← app_eval _ kk]
       exact e1 m cs u (k ++ kk)
      rw [e2] at hN
      have hop:okOp P S meths st o.op=true:=by
       have:ops.all (fun o=>okOp P S meths st o.op)=true:=hx
       rw [Array.all_eq_true_iff_forall_mem] at this
       exact this o (Array.mem_of_getElem? ho)
      have ht:=t_execOp (P:=P) (st:=st) id R.call R.meth (ρ:=Frame.eval { fn:=f,tmps,todo:=.inRegion ops (i::l)::k,defers:=[],mode:=.run,kind:=.normal }) (fun _=>rfl) (fun _=>rfl) o hop
      have hs:Susp { fn:=f,tmps,todo:=.inRegion ops (i::l)::k,defers:=[],mode:=.run,kind:=.normal }:=⟨_,_,_,_,rfl⟩
      rw [e2,e2]
      rcases apply_sim (cs:=cs) (cs':=cs') (kk:=kk) (kk':=kk') hF0 ht hl hw hN rfl with ⟨a,b,c,h⟩|⟨v',w',es,hb,⟨x,h1,h2⟩|⟨g,args,hg,h1,h2⟩|⟨ch,h1,h2⟩⟩
      ·exact .inl ⟨a,b,c,h⟩
      ·exact .inr ⟨_,v',w',es,hb,hF0.finish x,.inl ⟨by rw [h1,app_finish hs],by rw [h2,app_finish hs]⟩⟩
      ·exact .inr ⟨_,v',w',es,hb,.enter R hg args,.inr ⟨hs,h1,h2⟩⟩
      ·exact .inr ⟨_,v',w',es,hb,hF0.raise ch,.inl ⟨by rw [h1,app_raise],by rw [h2,app_raise]⟩⟩
  | _=>exact hx.elim
structure OkL (P:Program) (fr:Frame):Prop where
 kind:fr.kind=.normal
 round:fr.roundOf=none
 defers:fr.defers=[]
 fn:∃ fn,P.funcs[fr.fn]?=some fn
theorem OkF.leaves {fr:Frame}(h:OkF P S meths st fr):OkL P fr:=⟨h.kind,h.round,h.defers,h.fn⟩
theorem OkL.app {fr:Frame}(h:OkL P fr)(k:List Item):OkL P (fr.app k):=⟨h.kind,h.round,h.defers,h.fn⟩
theorem pop_sim {fr:Frame}(hF:OkL P fr)(hm:fr.mode≠.run){c c':Frame}{cs cs':List Frame}{v w:World}(hl:Lk sft v w){N:Nat}(hw:Win N v w){main main':Bool}
    (hN:(stepG P main (G fr (c::cs)) w).wd≤w.drawn+N) :
    (∃ o v' es,stepG P main' (G fr (c'::cs')) v=.ended o v' es)∨∃ v' w' es,Both st sft v v' w w' es ∧
      ((∃ x,stepG P main' (G fr (c'::cs')) v=.go (G (c'.finish x) cs') v' es∧stepG P main (G fr (c::cs)) w=.go (G (c.finish x) cs) w' es) ∨
       (∃ ch,stepG P main' (G fr (c'::cs')) v=.go (G (c'.raise ch) cs') v' es∧stepG P main (G fr (c::cs)) w=.go (G (c.raise ch) cs) w' es)):=by
  obtain ⟨f,tmps,todo,defers,mode,kind,round⟩:=fr
  obtain ⟨hkind,hround,hdefers,⟨fn,hfn⟩⟩:=hF
  dsimp only at hkind hround hdefers hfn hm
  subst hkind hround hdefers
  cases mode with
  | run=>exact absurd rfl hm
  | panicking ch =>
    have e1:∀ (m:Bool) (c:Frame) (cs:List Frame) (u:World),stepG P m (G { fn:=f,tmps,todo:=todo,defers:=[],mode:=.panicking ch,kind:=.normal } (c::cs)) u=.go (G (c.raise ch) cs) u #[]:=fun m c cs u=>by
      simp [stepG,G,unwind,Frame.catches,hfn]
    exact .inr ⟨v,w,#[],.still hl,.inr ⟨ch,e1 _ _ _ _,e1 _ _ _ _⟩⟩
  | returning =>
    have e1:∀ (m:Bool) (c:Frame) (cs:List Frame) (u:World),stepG P m (G { fn:=f,tmps,todo:=todo,defers:=[],mode:=.returning,kind:=.normal } (c::cs)) u =
        GStep.after (seen P f ((results fn tmps).runT P u #[]).2) (match ((results fn tmps).runT P u #[]).1 with
          | .ok v w=>.go (G (c.finish v) cs) w
          | .halt (.stuck s) w=>.ended (.stuck s (Frame.pos P { fn:=f,tmps,todo:=todo,defers:=[],mode:=.returning,kind:=.normal })) w
          | .halt _ w=>.ended (.stuck "return: the result variables cannot be read" (Frame.pos P { fn:=f,tmps,todo:=todo,defers:=[],mode:=.returning,kind:=.normal })) w):=fun m c cs u=>by
      simp only [stepG,G,unwind,hfn,doReturn]
      rcases (Sem.runT P (results fn tmps) u #[]) with ⟨r,es⟩
      cases r with
      | ok a b=>rfl
      | halt h b=>cases h<;>rfl
    have hs:=t_results (P:=P) (st:=st) fn tmps
    rw [e1] at hN
    have hNr:((results fn tmps).runT P w #[]).1.world.drawn≤w.drawn+N:=by
      revert hN
      rw [wd_after]
      rcases t_ends P (results fn tmps) (st=true) _ w #[] hs with ⟨a,w',es',e,hp⟩|⟨x,w',es',e⟩|⟨x,w',es',e,hb⟩
      · rw [e];exact id
      · rw [e];exact id
      · rw [e];cases x<;>exact id
    have key:=lk_run P (results fn tmps) (st=true) _ (v:=v) (w:=w) #[] N hs hl hw hNr
    simp only [e1]
    revert key
    generalize (results fn tmps).runT P v #[]=rv
    generalize (results fn tmps).runT P w #[]=rw'
    intro key
    cases key with
    | @ok a v' w' es' n hp h1 h2 h3 h4 =>
      refine .inr ⟨v',w',seen P f es' ++ #[],⟨h1,h2,fun e he=>?_,n,h4⟩,.inl ⟨a,rfl,rfl⟩⟩
      rw [Array.append_empty] at he
      rcases h3 e (mem_seen he) with h|h
      · simp at h
      · exact h
    | panic _ _ _ _=>exact .inl ⟨_,_,_,rfl⟩
    | @lost x v' es' r hb=>cases x<;>exact .inl ⟨_,_,_,rfl⟩
end Go.Proofs.YtcgabodkegcpgaaDoor.Br
