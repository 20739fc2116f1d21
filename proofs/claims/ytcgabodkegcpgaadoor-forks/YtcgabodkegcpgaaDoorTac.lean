/- The bridge: an operation of a function of the set S is tame, and yields a value, nothing, or enters a function of S. -/
import Derived.Test.YtcgabodkegcpgaaDoorTam
import Derived.Conc.Own
set_option linter.unusedVariables false
set_option linter.unusedSimpArgs false
set_option maxHeartbeats 20000000
set_option maxRecDepth 100000
namespace Go.Proofs.YtcgabodkegcpgaaDoor.Br
variable {P:Program} {W:Prop}
theorem a4B {α β:Type}(f:α->β->Sem (ForInStep β)):∀ (l:List α),(∀ a∈l,∀ b,TT P W (f a b))->∀ (b:β),TT P W (forIn l b f)
 | [],_,b=>by simp only [List.forIn_nil];exact trivial
 | a::l,h,b=>by
  simp only [List.forIn_cons];refine p8 (h a (List.mem_cons_self ..) b) λs=>?_
  cases s with
  | done b=>exact trivial
  | yield b=>exact a4B f l (λx hx=>h x (List.mem_cons_of_mem _ hx)) b
theorem a7I {α β:Type}(f:α->β->Sem (ForInStep β))(xs:Array α)(h:∀ a∈xs,∀ b,TT P W (f a b))(b:β):TT P W (forIn xs b f):=by
 rw [← Array.forIn_toList];exact a4B f _ (λa ha=>h a (Array.mem_toList_iff.1 ha)) _
theorem c0i {β:Type}{Φ:β->Prop}{t:TypeId}{f:TypeDesc->Sem β}(h:∀ d,P.underlying t=some d->E6 P W Φ (f d)):E6 P W Φ (underlying t >>= f):=by
 show E6 P W Φ (((match P.underlying t with|some d=>pure d|none=>stuck "no such type"):Sem TypeDesc) >>= f)
 cases e:P.underlying t with
 | none=>exact i5 (Φ:=Φ) _
 | some d=>exact h d e
theorem c0W {β:Type}{Φ:β->Prop}{t:TypeId}{f:TypeInfo->Sem β}(h:∀ d,P.info? t=some d->E6 P W Φ (f d)):E6 P W Φ (typeInfo t >>= f):=by
 show E6 P W Φ (((match P.info? t with|some d=>pure d|none=>stuck "no such type"):Sem TypeInfo) >>= f)
 cases e:P.info? t with
 | none=>exact i5 (Φ:=Φ) _
 | some d=>exact h d e
def a4C (P:Program):Nat->TypeId->Bool
 | 0,_=>false
 | n+1,t=>match P.underlying t with
  | some .bool|some (.int _)|some (.float _)|some .string=>true
  | some (.struct fs)=>fs.all λf=>a4C P n f.type
  | some (.array _ e)=>a4C P n e
  | _=>false
theorem a5r:∀ (d:Nat) (t:TypeId) (x y:Value),TT P W (Op.eqGuardIn d t x y)
 | 0,_,_,_=>d6 _
 | d+1,t,x,y=>by
  unfold Op.eqGuardIn
  repeat' first|exact E9 _ _|exact trivial|exact n9 _|exact i5 _|exact d6 _|exact g7 _|exact j4|exact g5 _|exact d8 _|exact i7 _|exact g6 _|exact p7 _|exact s7 _ _ _|exact i8 _|exact j5 _ _|exact m7 _ _|exact i6 _|exact d9 _|exact p9 _|exact k8 _|exact p6 _|exact p5 _|((with_reducible refine m9 ?_ ?_ ?_);(exact λ_ _=>.inl rfl);(exact λ_ _=>.inl rfl))|exact n7 _|exact k9 _ _|exact s4 _|exact a5r d _ _ _|(refine a9n _ ?_ _ _)|(refine a4E _ ?_ _ _)|(refine p8 ?_ ?_)|(intro _)|(refine A7 ?_ ?_)|split|dsimp only
theorem b5n (op:BinOp)(t:TypeId)(x y:Operand)(a b:Value):TT P W (eqGuard op t x y a b):=by
 unfold eqGuard
 repeat' first|exact E9 _ _|exact trivial|exact n9 _|exact i5 _|exact d6 _|exact g7 _|exact j4|exact g5 _|exact d8 _|exact i7 _|exact g6 _|exact p7 _|exact s7 _ _ _|exact i8 _|exact j5 _ _|exact m7 _ _|exact i6 _|exact d9 _|exact p9 _|exact k8 _|exact p6 _|exact p5 _|((with_reducible refine m9 ?_ ?_ ?_);(exact λ_ _=>.inl rfl);(exact λ_ _=>.inl rfl))|exact n7 _|exact k9 _ _|exact s4 _|exact a5r _ _ _ _|(refine p8 ?_ ?_)|(intro _)|(refine A7 ?_ ?_)|split|dsimp only
theorem a5g:∀ (n:Nat) (t:TypeId),a4C P n t=true->∀ (d:Nat) (x y:Value),TT P W (Op.equalIn d t x y)
 | 0,_,h=>by cases h
 | n+1,t,h=>by
  intro d x y
  cases d with
  | zero=>exact d6 _
  | succ d =>
   unfold Op.equalIn;refine c0i λu hu=>?_;unfold a4C at h;rw [hu] at h
   cases u with
   | bool =>
    repeat' first|contradiction|exact E9 _ _|exact trivial|exact n9 _|exact i5 _|exact d6 _|exact g7 _|exact j4|exact g5 _|exact d8 _|exact i7 _|exact g6 _|exact p7 _|exact s7 _ _ _|exact i8 _|exact j5 _ _|exact m7 _ _|exact i6 _|exact d9 _|exact p9 _|exact k8 _|exact p6 _|exact p5 _|((with_reducible refine m9 ?_ ?_ ?_);(exact λ_ _=>.inl rfl);(exact λ_ _=>.inl rfl))|exact n7 _|exact k9 _ _|exact s4 _|(refine p8 ?_ ?_)|(intro _)|(refine A7 ?_ ?_)|split|dsimp only
   | int k =>
    repeat' first|contradiction|exact E9 _ _|exact trivial|exact n9 _|exact i5 _|exact d6 _|exact g7 _|exact j4|exact g5 _|exact d8 _|exact i7 _|exact g6 _|exact p7 _|exact s7 _ _ _|exact i8 _|exact j5 _ _|exact m7 _ _|exact i6 _|exact d9 _|exact p9 _|exact k8 _|exact p6 _|exact p5 _|((with_reducible refine m9 ?_ ?_ ?_);(exact λ_ _=>.inl rfl);(exact λ_ _=>.inl rfl))|exact n7 _|exact k9 _ _|exact s4 _|exact a0V _|exact a4F _|(refine p8 ?_ ?_)|(intro _)|(refine A7 ?_ ?_)|split|dsimp only
   | float k =>
    repeat' first|contradiction|exact E9 _ _|exact trivial|exact n9 _|exact i5 _|exact d6 _|exact g7 _|exact j4|exact g5 _|exact d8 _|exact i7 _|exact g6 _|exact p7 _|exact s7 _ _ _|exact i8 _|exact j5 _ _|exact m7 _ _|exact i6 _|exact d9 _|exact p9 _|exact k8 _|exact p6 _|exact p5 _|((with_reducible refine m9 ?_ ?_ ?_);(exact λ_ _=>.inl rfl);(exact λ_ _=>.inl rfl))|exact n7 _|exact k9 _ _|exact s4 _|(refine p8 ?_ ?_)|(intro _)|(refine A7 ?_ ?_)|split|dsimp only
   | string =>
    repeat' first|contradiction|exact E9 _ _|exact trivial|exact n9 _|exact i5 _|exact d6 _|exact g7 _|exact j4|exact g5 _|exact d8 _|exact i7 _|exact g6 _|exact p7 _|exact s7 _ _ _|exact i8 _|exact j5 _ _|exact m7 _ _|exact i6 _|exact d9 _|exact p9 _|exact k8 _|exact p6 _|exact p5 _|((with_reducible refine m9 ?_ ?_ ?_);(exact λ_ _=>.inl rfl);(exact λ_ _=>.inl rfl))|exact n7 _|exact k9 _ _|exact s4 _|(refine p8 ?_ ?_)|(intro _)|(refine A7 ?_ ?_)|split|dsimp only
   | struct fs =>
    have ih:∀ fs',TypeDesc.struct fs=TypeDesc.struct fs'->∀ f:Field,f∈fs'->∀ x y,TT P W (Op.equalIn d f.type x y):=λfs' e f hf x y=>by cases e;exact a5g n f.type (by simp only [Array.all_eq_true_iff_forall_mem] at h;exact h f hf) d x y
    repeat' first|contradiction|exact E9 _ _|exact trivial|exact n9 _|exact i5 _|exact d6 _|exact g7 _|exact j4|exact g5 _|exact d8 _|exact i7 _|exact g6 _|exact p7 _|exact s7 _ _ _|exact i8 _|exact j5 _ _|exact m7 _ _|exact i6 _|exact d9 _|exact p9 _|exact k8 _|exact p6 _|exact p5 _|((with_reducible refine m9 ?_ ?_ ?_);(exact λ_ _=>.inl rfl);(exact λ_ _=>.inl rfl))|exact n7 _|exact k9 _ _|exact s4 _|exact ih _ (by assumption) _ (by assumption) _ _|(refine a7I _ _ ?_ _)|(refine p8 ?_ ?_)|(intro _)|(refine A7 ?_ ?_)|split|dsimp only
   | array len e =>
    have ih:∀ l' e',TypeDesc.array len e=TypeDesc.array l' e'->∀ x y,TT P W (Op.equalIn d e' x y):=λl' e' ee x y=>by cases ee;exact a5g n e h d x y
    repeat' first|contradiction|exact E9 _ _|exact trivial|exact n9 _|exact i5 _|exact d6 _|exact g7 _|exact j4|exact g5 _|exact d8 _|exact i7 _|exact g6 _|exact p7 _|exact s7 _ _ _|exact i8 _|exact j5 _ _|exact m7 _ _|exact i6 _|exact d9 _|exact p9 _|exact k8 _|exact p6 _|exact p5 _|((with_reducible refine m9 ?_ ?_ ?_);(exact λ_ _=>.inl rfl);(exact λ_ _=>.inl rfl))|exact n7 _|exact k9 _ _|exact s4 _|exact ih _ _ (by assumption) _ _|(refine a4E _ ?_ _ _)|(refine p8 ?_ ?_)|(intro _)|(refine A7 ?_ ?_)|split|dsimp only
   | _=>cases h
theorem b2p (d:Nat)(t e:TypeId)(h:P.underlying t=some (.pointer e))(x:Value):TT P W (Op.equalIn d t x (.pointer none)):=by
 cases d with
 | zero=>exact d6 _
 | succ d =>
  unfold Op.equalIn;refine c0i λu hu=>?_;rw [h] at hu;obtain rfl:=Option.some.inj hu
  cases x with
  | pointer a=>cases a<;>exact trivial
  | _=>exact i5 _
theorem a2D (op:BinOp)(k:FloatKind)(a b:Nat):TT P W (Op.Complex.arith op k a b):=by
 unfold Op.Complex.arith
 repeat' first|(with_reducible first|exact E9 _ _|exact n9 _|exact i5 _|exact d6 _|exact g7 _|exact j4|exact g5 _|exact d8 _|exact i7 _|exact d9 _|exact p9 _|exact k8 _|exact p6 _|exact p5 _|((with_reducible refine m9 ?_ ?_ ?_);(exact λ_ _=>.inl rfl);(exact λ_ _=>.inl rfl))|exact n7 _|exact k9 _ _|exact s4 _|exact a4H _ _ _ _)|exact d6 _|(refine p8 ?_ ?_)|(intro _)|(refine A7 ?_ ?_)|split|dsimp only
theorem b8i (op:BinOp)(k:FloatKind)(a b:Nat):TT P W (Op.Complex.cmp op k a b):=by
 unfold Op.Complex.cmp
 repeat' first|(with_reducible first|exact E9 _ _|exact n9 _|exact i5 _|exact d6 _|exact g7 _|exact j4|exact g5 _|exact d8 _|exact i7 _|exact d9 _|exact p9 _|exact k8 _|exact p6 _|exact p5 _|((with_reducible refine m9 ?_ ?_ ?_);(exact λ_ _=>.inl rfl);(exact λ_ _=>.inl rfl))|exact n7 _|exact k9 _ _|exact s4 _|exact a7q _ _ _ _)|exact d6 _|(refine p8 ?_ ?_)|(intro _)|(refine A7 ?_ ?_)|split|dsimp only
theorem a7g (k:FloatKind)(a:Nat)(k':FloatKind):TT P W (Conv.floatToFloat k a k'):=by
 unfold Conv.floatToFloat
 repeat' first|(with_reducible first|exact E9 _ _|exact n9 _|exact i5 _|exact d6 _|exact g7 _|exact j4|exact g5 _|exact d8 _|exact i7 _|exact d9 _|exact p9 _|exact k8 _|exact p6 _|exact p5 _|((with_reducible refine m9 ?_ ?_ ?_);(exact λ_ _=>.inl rfl);(exact λ_ _=>.inl rfl))|exact n7 _|exact k9 _ _|exact s4 _)|exact d6 _|(refine p8 ?_ ?_)|(intro _)|(refine A7 ?_ ?_)|split|dsimp only
theorem b9P (k:FloatKind)(a:Nat)(k':FloatKind):TT P W (Op.Complex.conv k a k'):=by
 unfold Op.Complex.conv
 repeat' first|(with_reducible first|exact E9 _ _|exact n9 _|exact i5 _|exact d6 _|exact g7 _|exact j4|exact g5 _|exact d8 _|exact i7 _|exact d9 _|exact p9 _|exact k8 _|exact p6 _|exact p5 _|((with_reducible refine m9 ?_ ?_ ?_);(exact λ_ _=>.inl rfl);(exact λ_ _=>.inl rfl))|exact n7 _|exact k9 _ _|exact s4 _|exact a7g _ _ _)|exact d6 _|(refine p8 ?_ ?_)|(intro _)|(refine A7 ?_ ?_)|split|dsimp only
theorem b2q (a b:Nat):TT P W (Op.Complex.add a b):=a2D _ _ _ _
theorem b2r (a b:Nat):TT P W (Op.Complex.sub a b):=a2D _ _ _ _
theorem b2s (a b:Nat):TT P W (Op.Complex.mul a b):=a2D _ _ _ _
theorem b2t (a b:Nat):TT P W (Op.Complex.quo a b):=a2D _ _ _ _
theorem b2u (a b c d:Nat):TT P W (Op.Complex.product a b c d):=by
 unfold Op.Complex.product
 repeat' first|(with_reducible first|exact E9 _ _|exact n9 _|exact i5 _|exact d6 _|exact g7 _|exact j4|exact g5 _|exact d8 _|exact i7 _|exact d9 _|exact p9 _|exact k8 _|exact p6 _|exact p5 _|((with_reducible refine m9 ?_ ?_ ?_);(exact λ_ _=>.inl rfl);(exact λ_ _=>.inl rfl))|exact n7 _|exact k9 _ _|exact s4 _|exact b2q _ _|exact b2r _ _|exact b2s _ _|exact b2t _ _)|exact d6 _|(refine p8 ?_ ?_)|(intro _)|(refine A7 ?_ ?_)|split|dsimp only
theorem a9i (s a b c d:Nat):TT P W (Op.Complex.corrected s a b c d):=by
 unfold Op.Complex.corrected
 repeat' first|(with_reducible first|exact E9 _ _|exact n9 _|exact i5 _|exact d6 _|exact g7 _|exact j4|exact g5 _|exact d8 _|exact i7 _|exact d9 _|exact p9 _|exact k8 _|exact p6 _|exact p5 _|((with_reducible refine m9 ?_ ?_ ?_);(exact λ_ _=>.inl rfl);(exact λ_ _=>.inl rfl))|exact n7 _|exact k9 _ _|exact s4 _|exact b2q _ _|exact b2r _ _|exact b2s _ _|exact b2t _ _)|exact d6 _|(refine p8 ?_ ?_)|(intro _)|(refine A7 ?_ ?_)|split|dsimp only
theorem b0N (a b c d:Nat):TT P W (Op.Complex.quotient a b c d):=by
 unfold Op.Complex.quotient
 repeat' first|(with_reducible first|exact E9 _ _|exact n9 _|exact i5 _|exact d6 _|exact g7 _|exact j4|exact g5 _|exact d8 _|exact i7 _|exact d9 _|exact p9 _|exact k8 _|exact p6 _|exact p5 _|((with_reducible refine m9 ?_ ?_ ?_);(exact λ_ _=>.inl rfl);(exact λ_ _=>.inl rfl))|exact n7 _|exact k9 _ _|exact s4 _|exact b2q _ _|exact b2r _ _|exact b2s _ _|exact b2t _ _|exact b8i _ _ _ _|exact a9i _ _ _ _ _)|exact d6 _|(refine p8 ?_ ?_)|(intro _)|(refine A7 ?_ ?_)|split|dsimp only
theorem b0O (op:BinOp)(k:FloatKind)(a b c d:Nat):TT P W (Op.complexOp op k a b c d):=by
 unfold Op.complexOp
 repeat' first|(with_reducible first|exact E9 _ _|exact n9 _|exact i5 _|exact d6 _|exact g7 _|exact j4|exact g5 _|exact d8 _|exact i7 _|exact d9 _|exact p9 _|exact k8 _|exact p6 _|exact p5 _|((with_reducible refine m9 ?_ ?_ ?_);(exact λ_ _=>.inl rfl);(exact λ_ _=>.inl rfl))|exact n7 _|exact k9 _ _|exact s4 _|exact a2D _ _ _ _|exact b8i _ _ _ _|exact b9P _ _ _|exact b2u _ _ _ _|exact b0N _ _ _ _)|exact d6 _|(refine p8 ?_ ?_)|(intro _)|(refine A7 ?_ ?_)|split|dsimp only
theorem b9Q (op:BinOp)(t:TypeId)(x y:Value)(h:∀ x,op=.eql\/op=.neq->TT P W (Op.equalIn Op.maxDepth t x y)):TT P W (binOp op t x y):=by
 have h1:∀ x,op=.eql->TT P W (Op.equal t x y):=λx e=>h x (.inl e);have h2:∀ x,op=.neq->TT P W (Op.equal t x y):=λx e=>h x (.inr e);unfold binOp
 repeat' first|(with_reducible first|exact E9 _ _|exact n9 _|exact i5 _|exact d6 _|exact g7 _|exact j4|exact g5 _|exact d8 _|exact i7 _|exact d9 _|exact p9 _|exact k8 _|exact p6 _|exact p5 _|((with_reducible refine m9 ?_ ?_ ?_);(exact λ_ _=>.inl rfl);(exact λ_ _=>.inl rfl))|exact n7 _|exact k9 _ _|exact s4 _|exact b9Y _ _ _ _ _|exact a7p _ _ _ _|exact b8r _ _ _ _|exact a8x _ _ _ _|exact b8s _ _ _|exact a4H _ _ _ _|exact a7q _ _ _ _|exact b0O _ _ _ _ _ _|exact b2w _ _ _|exact h1 _ rfl|exact h2 _ rfl|exact a7K _ _ _|exact a7o _ _ _|exact a0V _|exact b5v _ _ _|exact b5w _ _ _|exact b5x _ _ _)|exact d6 _|(refine p8 ?_ ?_)|(intro _)|(refine A7 ?_ ?_)|split|dsimp only
variable {P:Program} {W:Prop}
theorem b8j (t:TypeId)(x:Place):TT P W (x.get t):=by
 cases x with
 | val v=>exact trivial
 | var a=>exact k9 _ _
theorem b0P:∀ (l:List FieldStep) (t:TypeId) (x:Place),TT P W (follow l t x)
 | [],_,_=>trivial
 | s::rest,t,x=>by
  unfold follow
  repeat' first|(with_reducible first|exact E9 _ _|exact n9 _|exact i5 _|exact d6 _|exact g7 _|exact j4|exact g5 _|exact d8 _|exact i7 _|exact d9 _|exact p9 _|exact k8 _|exact p6 _|exact p5 _|((with_reducible refine m9 ?_ ?_ ?_);(exact λ_ _=>.inl rfl);(exact λ_ _=>.inl rfl))|exact n7 _|exact k9 _ _|exact s4 _|exact b8j _ _|exact b0P rest _ _|exact a4G _ _|exact s7 _ _ _)|exact d6 _|(refine p8 ?_ ?_)|(intro _)|(refine A7 ?_ ?_)|split|dsimp only
theorem b5o (ts:Array TypeId)(t:TypeId)(vs:Array Value):TT P W (Builtin.ssaWrapNilChk_ ts t vs):=by
 unfold Builtin.ssaWrapNilChk_;rcases vs with ⟨_|⟨x,_|⟨y,_|⟨z,_|⟨u,l⟩⟩⟩⟩⟩<;>first|exact i5 _|skip
 cases y<;>first|exact i5 _|skip
 cases z<;>first|exact i5 _|skip
 cases x<;>first|exact i5 _|skip
 rename_i a
 cases a with
 | some a=>exact n9 _
 | none =>
 refine p8 (n7 _) λn=>?_
 repeat' first|(with_reducible first|exact E9 _ _|exact n9 _|exact i5 _|exact d6 _|exact g7 _|exact j4|exact g5 _|exact d8 _|exact i7 _|exact d9 _|exact p9 _|exact k8 _|exact p6 _|exact p5 _|((with_reducible refine m9 ?_ ?_ ?_);(exact λ_ _=>.inl rfl);(exact λ_ _=>.inl rfl))|exact n7 _|exact k9 _ _|exact s4 _)|exact d6 _|(refine p8 ?_ ?_)|(intro _)|(refine A7 ?_ ?_)|split|dsimp only
theorem a9j (t:TypeId)(x:Place)(b:Bool)(n:Option String):TT P W (receiverAt t x b n):=by
 unfold receiverAt
 repeat' first|(with_reducible first|exact E9 _ _|exact n9 _|exact i5 _|exact d6 _|exact g7 _|exact j4|exact g5 _|exact d8 _|exact i7 _|exact d9 _|exact p9 _|exact k8 _|exact p6 _|exact p5 _|((with_reducible refine m9 ?_ ?_ ?_);(exact λ_ _=>.inl rfl);(exact λ_ _=>.inl rfl))|exact n7 _|exact k9 _ _|exact s4 _|exact b8j _ _|exact b5o _ _ _)|exact d6 _|(refine p8 ?_ ?_)|(intro _)|(refine A7 ?_ ?_)|split|dsimp only
def a7h (P:Program)(C:FuncId->Prop)(name:String):Prop :=
 ∀ t i m f b,P.info? t=some i->i.methods.find? (·.name == name)=some m->m.func=some (f,b)->C f
theorem b0Q {C:FuncId->Prop}{name:String}(h:a7h P C name):∀ (n:Nat) (t:TypeId) (v:Value),E6 P W (λr=>C r.1) (method n t v name)
 | 0,_,_=>d6 _
 | n+1,t,v=>by
  unfold method;refine c0W λi hi=>?_;split
  ·rename_i m hm;refine p8 (b0P _ _ _) λr=>?_;split
   split
   ·refine p8 (b8j _ _) λy=>?_;split
    ·exact b0Q h n _ _
    ·exact d9 _
    ·exact i5 _
   ·rename_i f b hf;exact a4T (a9j _ _ _ _) λ_ _=>h t i m f b hi hm hf
  ·exact i5 _
def a0y (S:FuncId->Prop):Next->Prop
 | .value _=>True
 | .skip=>True
 | .enter f _=>S f
 | _=>False
def a2E (P:Program)(S:FuncId->Prop)(f:FuncId):Prop :=
 ∃ fn,P.funcs[f]?=some fn/\(fn.name == "runtime.NumGoroutine")=false /\
  ((fn.body.isNone=false/\S f)\/(fn.body.isNone=true/\Extern.findNext fn=none/\Extern.find fn=none/\(fn.name.endsWith ".init" && !fn.name.startsWith "(" && !fn.name.startsWith "gosem.")=false))
theorem a7i {S:FuncId->Prop}{f:FuncId}(h:a2E P S f)(args:Array Value):E6 P W (a0y S) (callFunc f args):=by
 obtain ⟨fn,hf,hn,h⟩:=h
 show E6 P W (a0y S) (match P.funcs[f]? with
  | none=>stuck "call: no such function"
  | some fn=>_)
 rw [hf];dsimp only;rw [hn];simp only [Bool.false_eq_true,if_false];rcases h with ⟨h1,h2⟩|⟨h1,h2,h3,h4⟩
 ·rw [h1];simp only [Bool.false_eq_true,if_false];exact h2
 ·rw [h1];simp only [if_true];refine ⟨by simp,by simp,?_⟩;rw [h2,h3];dsimp only;rw [h4];exact d6 _
theorem a9k {S:FuncId->Prop}{name:String}(h:a7h P (a2E P S) name)(recv:Value)(args:Array Value):E6 P W (a0y S) (callMethod recv name args):=by
 unfold callMethod;split
 ·exact c0Y (a4T (b0Q h _ _ _) λr hr=>a7i hr _)
 ·exact d9 _
 ·exact i5 _
variable {P:Program} {W:Prop}
theorem a3k:∀ (l:List FieldStep) (t:TypeId) (x:Option Value),TT P W (followBlind l t x)
 | [],_,_=>trivial
 | s::rest,t,x=>by
  unfold followBlind
  repeat' first|(with_reducible first|exact E9 _ _|exact n9 _|exact i5 _|exact d6 _|exact g7 _|exact j4|exact g5 _|exact d8 _|exact i7 _|exact d9 _|exact p9 _|exact k8 _|exact p6 _|exact p5 _|((with_reducible refine m9 ?_ ?_ ?_);(exact λ_ _=>.inl rfl);(exact λ_ _=>.inl rfl))|exact n7 _|exact k9 _ _|exact s4 _|exact a3k rest _ _|exact s7 _ _ _)|exact d6 _|(refine p8 ?_ ?_)|(intro _)|(refine A7 ?_ ?_)|split|dsimp only
theorem a7j:∀ (n:Nat) (t:TypeId) (v:Value) (name:String),TT P W (nilAhead n t v name)
 | 0,_,_,_=>trivial
 | n+1,t,v,name=>by
  unfold nilAhead
  repeat' first|(with_reducible first|exact E9 _ _|exact n9 _|exact i5 _|exact d6 _|exact g7 _|exact j4|exact g5 _|exact d8 _|exact i7 _|exact d9 _|exact p9 _|exact k8 _|exact p6 _|exact p5 _|((with_reducible refine m9 ?_ ?_ ?_);(exact λ_ _=>.inl rfl);(exact λ_ _=>.inl rfl))|exact n7 _|exact k9 _ _|exact s4 _|exact a3k _ _ _|exact a7j n _ _ _)|exact d6 _|(refine p8 ?_ ?_)|(intro _)|(refine A7 ?_ ?_)|split|dsimp only
def Y6 (P:Program)(S:FuncId->Bool)(meths:List String)(st:Bool)(o:Op):Bool :=
 match o with
 | .alloc _|.store _ _ _=>st
 | .move _|.assign _|.pick _ _ _|.box _ _|.build _ _|.buildSlice _ _ _|.load _ _|.makeChan _ _|.unOp _ _ _|.makeInterface _ _|.makeSlice _ _ _|.slice _ _ _ _ _|.fieldAddr _ _ _|.field _ _ _|.indexAddr _ _ _|.index _ _ _|.typeAssert _ _ _ _|.extract _ _|.nilCheck _=>true
 | .binOp op t _ y _=>(match op with|.eql|.neq=>false|_=>true) || a4C P 10 t || ((match P.underlying t with|some (.pointer _)=>true|_=>false) && (match y with|.const (.pointer none)=>true|_=>false))
 | .call { callee:=.builtin b,.. }=>(match b with|.len|.cap=>true|.append|.copy=>st|_=>false)
 | .call { callee:=.invoke _ m,.. }=>meths.contains m
 | .call { callee:=.value (.func f),.. }=>S f
 | _=>false
theorem R7 {Sp:FuncId->Prop}{s:Sem Value}(h:TT P W s):E6 P W (a0y Sp) (do pure (.value (← s))):=a4T h λ_ _=>trivial
theorem c0X {Sp:FuncId->Prop}{s:Sem Unit}(h:TT P W s):E6 P W (a0y Sp) (do s;pure .skip):=a4T h λ_ _=>trivial
theorem a7k {S:FuncId->Bool}{meths:List String}{st:Bool}(hst:st=true->W)(hS:∀ f,S f=true->a2E P (λf=>S f=true) f)(hM:∀ m∈meths,a7h P (a2E P (λf=>S f=true)) m)
  {ρ:Operand->Value}(hc:∀ v,ρ (.const v)=v)(hf:∀ f,ρ (.func f)=.func (.func f) #[] #[])(o:Oper)(h:Y6 P S meths st o.op=true):E6 P W (a0y (λf=>S f=true)) (execOp ρ o):=by
 unfold execOp;cases e:o.op<;>rw [e] at h<;>first|cases h|dsimp only
 case move x=>exact trivial
 case assign x=>exact trivial
 case pick c a b=>exact p8 (p6 _) λ_=>trivial
 case alloc t=>exact R7 (b9T (hst rfl) _ _ _)
 case box t x=>exact R7 (c1W _ _)
 case build t ps=>exact R7 (b9X _ _)
 case buildSlice t n ps=>exact R7 (a9o _ _ _)
 case load t a=>exact R7 (b8n _ _)
 case store t a x=>exact c0X (b5r (hst rfl) _ _ _)
 case makeChan t x=>exact R7 (b2x _ _)
 case nilCheck x =>
  dsimp only;split
  ·exact d9 _
  ·exact d9 _
  ·exact d9 _
  ·split
   ·exact d9 _
   ·refine p8 j4 λp=>p8 (a7j _ _ _ _) λb=>?_;split
    ·exact d6 _
    ·exact trivial
   ·exact trivial
  ·exact trivial
 case binOp op t x y u =>
  refine R7 (p8 (b5n _ _ _ _ _ _) λ_=>b9Q _ _ _ _ λx' hop=>?_);unfold Y6 at h;dsimp only at h;rw [Bool.or_eq_true,Bool.or_eq_true,Bool.and_eq_true] at h;rcases h with (h|h)|⟨h1,h2⟩
  ·rcases hop with rfl|rfl<;>cases h
  ·exact a5g 10 t h _ _ _
  ·split at h1
   ·rename_i e' hu;split at h2
    ·rw [hc];exact b2p _ _ _ hu _
    ·cases h2
   ·cases h1
 case unOp op t x=>exact R7 (b9Z _ _)
 case makeInterface t x=>exact R7 (a5z _ _)
 case makeSlice t l c=>exact R7 (b0S _ _ _)
 case slice t x a b c=>exact R7 (b5t _ _ _ _ _)
 case fieldAddr t x i=>exact R7 (b5u _ _ _)
 case field t x i=>exact R7 (b9U _ _ _)
 case indexAddr t x i=>exact R7 (b5s _ _ _)
 case index t x i=>exact R7 (b9V _ _ _)
 case typeAssert x t u b=>exact R7 (a9m _ _ _ _)
 case extract x i=>exact R7 (b5q _ _)
 case call c =>
  obtain ⟨callee,args,ats⟩:=c
  cases callee with
  | builtin b =>
   show E6 P W _ (builtin b ats o.type _ _);cases b<;>first|cases h|skip
   ·exact R7 (b8t (hst rfl) _ _ _)
   ·exact R7 (c1Y _ _ _)
   ·exact R7 (c0Z (hst rfl) _ _ _)
   ·exact R7 (c1X _ _ _)
  | invoke r m =>
   have hm:m∈meths:=by simpa [Y6] using h
   show E6 P W _ (invoke (.fn (.method m) #[]) (#[ρ r] ++ args.map ρ));unfold invoke;dsimp only;split
   ·exact a9k (hM m hm) _ _
   ·exact i5 _
  | value f =>
   cases f with
   | func f =>
    show E6 P W _ (Deferred.ofValue (ρ (.func f)) _ >>= _);rw [hf];exact a7i (hS f h) _
   | _=>cases h
variable {P:Program} {S:FuncId->Bool} {meths:List String} {st:Bool} {sft:Nat->Nat}
def O3 (P:Program)(S:FuncId->Bool)(meths:List String)(st:Bool):Code->Bool
 | .skip|.exit _|.ret|.label _=>true
 | .region _ ops _=>ops.all λo=>Y6 P S meths st o.op
 | .seq a b=>O3 P S meths st a && O3 P S meths st b
 | .cond _ a b=>O3 P S meths st a && O3 P S meths st b
 | .block _ a=>O3 P S meths st a
 | .loop a=>O3 P S meths st a
 | _=>false
def a1n (P:Program)(S:FuncId->Bool)(meths:List String)(st:Bool):Item->Prop
 | .code c=>O3 P S meths st c=true
 | .inBlock _=>True
 | .inLoop c=>O3 P S meths st c=true
 | .inRegion ops _=>(ops.all λo=>Y6 P S meths st o.op)=true
 | _=>False
structure Rules (P:Program) (S:FuncId->Bool) (meths:List String) (st:Bool):Prop where
 body:∀ f,S f=true->∃ fn c,P.funcs[f]?=some fn/\(fn.name == "runtime.NumGoroutine")=false/\fn.body=some c/\O3 P S meths st c=true
 meth:∀ m∈meths,a7h P (a2E P (λf=>S f=true)) m
theorem Rules.call (h:Rules P S meths st)(f:FuncId)(hf:S f=true):a2E P (λf=>S f=true) f:=by
 obtain ⟨fn,c,h1,h2,h3,_⟩:=h.body f hf;exact ⟨fn,h1,h2,.inl ⟨by rw [h3];rfl,hf⟩⟩
structure OkF (P:Program) (S:FuncId->Bool) (meths:List String) (st:Bool) (fr:Frame):Prop where
 kind:fr.kind=.normal
 round:fr.roundOf=none
 defers:fr.defers=[]
 fn:∃ fn,P.funcs[fr.fn]?=some fn
 todo:∀ x∈fr.todo,a1n P S meths st x
theorem OkF.enter (h:Rules P S meths st){f:FuncId}(hf:S f=true)(args:Array Value):OkF P S meths st (Frame.enter P f args .normal):=by
 obtain ⟨fn,c,h1,_,h3,h4⟩:=h.body f hf;refine ⟨rfl,rfl,rfl,⟨fn,h1⟩,λx hx=>?_⟩;simp only [Frame.enter,h1,Option.bind_some,h3,Option.getD_some,List.mem_cons,List.not_mem_nil,or_false] at hx;subst hx;exact h4
theorem OkF.raise {fr:Frame}(h:OkF P S meths st fr)(chain:List PanicEntry):OkF P S meths st (fr.raise chain):=by
 unfold Frame.raise;split<;>exact ⟨h.kind,h.round,h.defers,h.fn,h.todo⟩
theorem OkF.put {fr:Frame}(h:OkF P S meths st fr){todo:List Item}(ht:∀ x∈todo,a1n P S meths st x)(tmps:Array Value)(m:FrameMode):OkF P S meths st { fr with tmps:=tmps,todo:=todo,mode:=m } :=
 ⟨h.kind,h.round,h.defers,h.fn,ht⟩
theorem OkF.finish {fr:Frame}(h:OkF P S meths st fr)(v:Value):OkF P S meths st (fr.finish v):=by
 have ht:=h.todo;unfold Frame.finish;split
 ·rename_i ops i rest k e;rw [e] at ht;refine ⟨h.kind,h.round,h.defers,h.fn,λx hx=>?_⟩;rcases List.mem_cons.1 hx with rfl|hx
  ·exact ht (.inRegion ops (i::rest)) (List.mem_cons_self ..)
  ·exact ht _ (List.mem_cons_of_mem _ hx)
 ·rename_i e;rw [e] at ht;exact (ht _ (List.mem_cons_self ..)).elim
 ·rename_i e;rw [e] at ht;exact (ht _ (List.mem_cons_self ..)).elim
 ·rename_i e;rw [e] at ht;exact (ht _ (List.mem_cons_self ..)).elim
 ·rename_i e;rw [e] at ht;exact (ht _ (List.mem_cons_self ..)).elim
 ·exact h
def _root_.Go.GStep.wd:GStep->Nat
 | .go _ w _=>w.drawn
 | .ended _ w _=>w.drawn
 | _=>0
theorem a2F (es:Array Event)(s:GStep):(GStep.after es s).wd=s.wd:=by cases s<;>rfl
theorem a2G {fn:FuncId}{es:Array Event}{e:Event}(h:e∈seen P fn es):e∈es:=by
 have key:∀ (l:List Event) (x:Bool × Array Event),e∈(l.foldl (λ(x:Bool × Array Event) e =>
   match e.loc with
   | .mark (.extern f)=>((P.funcs[f]?).any (·.norace),x.2)
   | _=>(x.1,if x.1 && !e.sync then x.2 else x.2.push e)) x).2->e∈x.2\/e∈l:=by
  intro l
  induction l with
  | nil=>exact λx h=>.inl h
  | cons a l ih =>
   intro x h;simp only [List.foldl_cons] at h;rcases ih _ h with h|h
   ·split at h
    ·exact .inl h
    ·dsimp only at h;split at h
     ·exact .inl h
     ·rcases Array.mem_push.1 h with h|rfl
      ·exact .inl h
      ·exact .inr (List.mem_cons_self ..)
   ·exact .inr (List.mem_cons_of_mem _ h)
 dsimp only [seen] at h;rw [← Array.foldl_toList] at h;rcases key es.toList _ h with h|h
 ·simp at h
 ·exact Array.mem_toList_iff.1 h
structure Both (st:Bool) (sft:Nat->Nat) (v v' w w':World) (es:Array Event):Prop where
 lk:Lk sft v' w'
 kept:Kept sft w w'
 off:∀ e∈es,Off sft (st=true) w'.heap.size e
 drew:∃ c,Drew c v v' w w'
theorem Both.still {v w:World}(h:Lk sft v w):Both st sft v v w w #[]:=⟨h,.refl _ _,λe he=>by simp at he,0,.zero _ _⟩
theorem Q4 {w w':World}{q:Question}{n:Nat}(h:(choose q).run P w=.ok n w'):w.drawn<=w'.drawn:=by
 simp only [choose,Sem.run] at h;split at h
 ·obtain ⟨_,rfl⟩:=Result.ok.inj h;exact Nat.le_refl _
 ·obtain ⟨_,rfl⟩:=Result.ok.inj h;exact Nat.le_succ _
theorem b0R {w w':World}{q:Question}{x:Halt}(h:(choose q).run P w=.halt x w'):w.drawn<=w'.drawn:=by
 simp only [choose,Sem.run] at h;split at h<;>cases h
theorem b8k {fr:Frame}{cs:List Frame}{dy:Option Dying}{g:Nat}{w:World}:w.drawn<=(early P fr cs dy g w).wd:=by
 unfold early;dsimp only
 repeat' split
 all_goals first
  | exact Nat.le_refl _
  | (simp only [GStep.wd];exact Q4 (P:=P) (by assumption:(choose (.early g)).run P w=.ok _ _))
  | (simp only [GStep.wd];rename_i hh;exact Q4 (P:=P) hh)
  | (simp only [GStep.wd];rename_i hh;exact b0R (P:=P) hh)
  | (simp only [GStep.wd];rename_i hh _;exact Q4 (P:=P) hh)
  | (simp only [GStep.wd];rename_i hh _ _;exact Q4 (P:=P) hh)
  | (simp only [GStep.wd];rename_i hh _ _ _;exact Q4 (P:=P) hh)
  | (simp only [GStep.wd];rename_i hh _ _ _ _;exact Q4 (P:=P) hh)
open Go.Conc (G)
def _root_.Go.Frame.app (fr:Frame)(k:List Item):Frame:={ fr with todo:=fr.todo ++ k }
theorem b5p {fr:Frame}(hF:OkF P S meths st fr){s:Sem Next}(hs:E6 P (st=true) (a0y (λf=>S f=true)) s){v w:World}(hl:Lk sft v w){N:Nat}(hw:Win N v w){cs cs':List Frame}{kk kk':List Item}
    (hN:(stepG.apply P true (fr.app kk) cs none s w).wd<=w.drawn+N){ops:Array Oper}{l:List Nat}{k:List Item}(ht:fr.todo=.inRegion ops l::k) :
    (∃ o v' es,stepG.apply P true (fr.app kk') cs' none s v=.ended o v' es)\/∃ v' w' es,Both st sft v v' w w' es /\
      ((∃ x,stepG.apply P true (fr.app kk') cs' none s v=.go (G ((fr.app kk').finish x) cs') v' es/\stepG.apply P true (fr.app kk) cs none s w=.go (G ((fr.app kk).finish x) cs) w' es) \/
       (∃ f args,S f=true/\stepG.apply P true (fr.app kk') cs' none s v=.go (G (Frame.enter P f args .normal) (fr.app kk'::cs')) v' es/\stepG.apply P true (fr.app kk) cs none s w=.go (G (Frame.enter P f args .normal) (fr.app kk::cs)) w' es) \/
       (∃ ch,stepG.apply P true (fr.app kk') cs' none s v=.go (G ((fr.app kk').raise ch) cs') v' es/\stepG.apply P true (fr.app kk) cs none s w=.go (G ((fr.app kk).raise ch) cs) w' es)):=by
  obtain ⟨fn,tmps,todo,defers,mode,kind,round⟩:=fr;obtain rfl:todo=.inRegion ops l::k:=ht;dsimp only [Frame.app,List.cons_append] at hN ⊢;have hearly:(kind == CallKind.early)=false:=by rw [show kind=.normal from hF.kind];rfl
  have hNr:(s.runT P w #[]).1.world.drawn<=w.drawn+N:=by
    revert hN;unfold stepG.apply;rcases b6m P s (st=true) _ w #[] hs with ⟨a,w',es',e,hp⟩|⟨x,w',es',e⟩|⟨x,w',es',e,hb⟩
    · simp only [if_true,e,a2F]
      cases a<;>first|exact hp.elim|exact id
    · simp only [if_true,e,a2F]
      exact id
    · simp only [if_true,e,a2F]
      rcases hb with hb|⟨g,rfl⟩
      · cases x with
        | unsupported u=>cases u<;>first|exact hb.elim|exact id
        | _=>first|exact hb.elim|exact id
      · exact λh=>Nat.le_trans b8k h
  have key:=b1f P s (st=true) _ (v:=v) (w:=w) #[] N hs hl hw hNr;unfold stepG.apply;simp only [if_true,hearly,Bool.false_eq_true,if_false];revert key;generalize s.runT P v #[]=rv;generalize s.runT P w #[]=rw';intro key;have offs:∀ {es':Array Event} {n:Nat},a0p sft (st=true) n #[] es'->∀ e∈seen P fn es' ++ #[],Off sft (st=true) n e:=λhli e he=>by
    rw [Array.append_empty] at he;rcases hli e (a2G he) with h|h
    · simp at h
    · exact h
  cases key with
  | @ok a v' w' es' c hp h1 h2 h3 h4 =>
    refine .inr ⟨v',w',seen P fn es' ++ #[],⟨h1,h2,offs h3,c,h4⟩,?_⟩
    cases a with
    | value x=>exact .inl ⟨x,rfl,rfl⟩
    | skip=>exact .inl ⟨undef,rfl,rfl⟩
    | enter f args=>exact .inr (.inl ⟨f,args,hp,rfl,rfl⟩)
    | _=>exact hp.elim
  | @panic x v' w' es' c h1 h2 h3 h4 =>
    exact .inr ⟨v',w',seen P fn es' ++ #[],⟨h1,h2,offs h3,c,h4⟩,.inr (.inr ⟨_,rfl,rfl⟩)⟩
  | @lost x v' es' r hb =>
    refine .inl ?_
    cases x with
    | unsupported u=>cases u<;>first|exact hb.elim|exact ⟨_,_,_,rfl⟩
    | stuck m=>exact ⟨_,_,_,rfl⟩
    | _=>exact hb.elim
end Go.Proofs.YtcgabodkegcpgaaDoor.Br
