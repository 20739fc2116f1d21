/- The bridge: an operation of a function of the set S is tame, and yields a value, nothing, or enters a function of S. No statement of the program is proved here. -/
import Derived.Test.YtcgabodkegcpgaaDoorTao
import Derived.Conc.Own
namespace Go.Proofs.YtcgabodkegcpgaaDoor.Br
set_option maxHeartbeats 20000000
variable {P:Program} {W:Prop}
set_option linter.unusedSimpArgs false
theorem t_listForIn' {α β:Type}(f:α→β→Sem (ForInStep β)):∀ (l:List α),(∀ a∈l,∀ b,TT P W (f a b))→∀ (b:β),TT P W (forIn l b f)
 | [],_,b=>by simp only [List.forIn_nil];exact trivial
 | a::l,h,b=>by
  simp only [List.forIn_cons]
  refine t_bnd (h a (List.mem_cons_self ..) b) fun s=>?_
  cases s with
  | done b=>exact trivial
  | yield b=>exact t_listForIn' f l (fun x hx=>h x (List.mem_cons_of_mem _ hx)) b
theorem t_arrayForIn' {α β:Type}(f:α→β→Sem (ForInStep β))(xs:Array α)(h:∀ a∈xs,∀ b,TT P W (f a b))(b:β):TT P W (forIn xs b f):=by
 rw [← Array.forIn_toList]
 exact t_listForIn' f _ (fun a ha=>h a (Array.mem_toList_iff.1 ha)) _
theorem t_und {β:Type}{Φ:β→Prop}{t:TypeId}{f:TypeDesc→Sem β}(h:∀ d,P.underlying t=some d→Tame P W Φ (f d)):Tame P W Φ (underlying t >>= f):=by
 show Tame P W Φ (((match P.underlying t with|some d=>pure d|none=>stuck "no such type"):Sem TypeDesc) >>= f)
 cases e:P.underlying t with
 | none=>exact t_stuck (Φ:=Φ) _
 | some d=>exact h d e
theorem t_info {β:Type}{Φ:β→Prop}{t:TypeId}{f:TypeInfo→Sem β}(h:∀ d,P.info? t=some d→Tame P W Φ (f d)):Tame P W Φ (typeInfo t >>= f):=by
 show Tame P W Φ (((match P.info? t with|some d=>pure d|none=>stuck "no such type"):Sem TypeInfo) >>= f)
 cases e:P.info? t with
 | none=>exact t_stuck (Φ:=Φ) _
 | some d=>exact h d e
def eqPlain (P:Program):Nat→TypeId→Bool
 | 0,_=>false
 | n+1,t=>match P.underlying t with
  | some .bool|some (.int _)|some (.float _)|some .string=>true
  | some (.struct fs)=>fs.all fun f=>eqPlain P n f.type
  | some (.array _ e)=>eqPlain P n e
  | _=>false
theorem t_eqGuardIn:∀ (d:Nat) (t:TypeId) (x y:Value),TT P W (Op.eqGuardIn d t x y)
 | 0,_,_,_=>t_unsupported _
 | d+1,t,x,y=>by
  unfold Op.eqGuardIn
  repeat' first|exact t_rp _ _|exact trivial|exact t_pure _|exact t_stuck _|exact t_unsupported _|exact t_goPanic _|exact t_program|exact t_typeInfo _|exact t_underlying _|exact t_sizeOf _|exact t_zeroValue _|exact t_isAgg _|exact t_part _ _ _|exact t_askRoom _|exact t_newRow _ _|exact t_newVar _ _|exact t_sureAddr _|exact t_runtimePanic _|exact t_asInt _|exact t_asIntOf _|exact t_asBool _|exact t_asAddr _|((with_reducible refine t_getObjB ?_ ?_ ?_);(exact fun _ _=>.inl rfl);(exact fun _ _=>.inl rfl))|exact t_choose _|exact t_loadVar _ _|exact t_shape _|exact t_eqGuardIn d _ _ _|(refine t_arrayForIn _ ?_ _ _)|(refine t_rangeForIn _ ?_ _ _)|(refine t_bnd ?_ ?_)|(intro _)|(refine t_ite ?_ ?_)|split|dsimp only
theorem t_eqGuard (op:BinOp)(t:TypeId)(x y:Operand)(a b:Value):TT P W (eqGuard op t x y a b):=by
 unfold eqGuard
 repeat' first|exact t_rp _ _|exact trivial|exact t_pure _|exact t_stuck _|exact t_unsupported _|exact t_goPanic _|exact t_program|exact t_typeInfo _|exact t_underlying _|exact t_sizeOf _|exact t_zeroValue _|exact t_isAgg _|exact t_part _ _ _|exact t_askRoom _|exact t_newRow _ _|exact t_newVar _ _|exact t_sureAddr _|exact t_runtimePanic _|exact t_asInt _|exact t_asIntOf _|exact t_asBool _|exact t_asAddr _|((with_reducible refine t_getObjB ?_ ?_ ?_);(exact fun _ _=>.inl rfl);(exact fun _ _=>.inl rfl))|exact t_choose _|exact t_loadVar _ _|exact t_shape _|exact t_eqGuardIn _ _ _ _|(refine t_bnd ?_ ?_)|(intro _)|(refine t_ite ?_ ?_)|split|dsimp only
theorem t_equalIn:∀ (n:Nat) (t:TypeId),eqPlain P n t=true→∀ (d:Nat) (x y:Value),TT P W (Op.equalIn d t x y)
 | 0,_,h=>by cases h
 | n+1,t,h=>by
  intro d x y
  cases d with
  | zero=>exact t_unsupported _
  | succ d =>
   unfold Op.equalIn
   refine t_und fun u hu=>?_
   unfold eqPlain at h
   rw [hu] at h
   cases u with
   | bool =>
    repeat' first|contradiction|exact t_rp _ _|exact trivial|exact t_pure _|exact t_stuck _|exact t_unsupported _|exact t_goPanic _|exact t_program|exact t_typeInfo _|exact t_underlying _|exact t_sizeOf _|exact t_zeroValue _|exact t_isAgg _|exact t_part _ _ _|exact t_askRoom _|exact t_newRow _ _|exact t_newVar _ _|exact t_sureAddr _|exact t_runtimePanic _|exact t_asInt _|exact t_asIntOf _|exact t_asBool _|exact t_asAddr _|((with_reducible refine t_getObjB ?_ ?_ ?_);(exact fun _ _=>.inl rfl);(exact fun _ _=>.inl rfl))|exact t_choose _|exact t_loadVar _ _|exact t_shape _|(refine t_bnd ?_ ?_)|(intro _)|(refine t_ite ?_ ?_)|split|dsimp only
   | int k =>
    repeat' first|contradiction|exact t_rp _ _|exact trivial|exact t_pure _|exact t_stuck _|exact t_unsupported _|exact t_goPanic _|exact t_program|exact t_typeInfo _|exact t_underlying _|exact t_sizeOf _|exact t_zeroValue _|exact t_isAgg _|exact t_part _ _ _|exact t_askRoom _|exact t_newRow _ _|exact t_newVar _ _|exact t_sureAddr _|exact t_runtimePanic _|exact t_asInt _|exact t_asIntOf _|exact t_asBool _|exact t_asAddr _|((with_reducible refine t_getObjB ?_ ?_ ?_);(exact fun _ _=>.inl rfl);(exact fun _ _=>.inl rfl))|exact t_choose _|exact t_loadVar _ _|exact t_shape _|exact t_behindNumber _|exact t_byteOf _|(refine t_bnd ?_ ?_)|(intro _)|(refine t_ite ?_ ?_)|split|dsimp only
   | float k =>
    repeat' first|contradiction|exact t_rp _ _|exact trivial|exact t_pure _|exact t_stuck _|exact t_unsupported _|exact t_goPanic _|exact t_program|exact t_typeInfo _|exact t_underlying _|exact t_sizeOf _|exact t_zeroValue _|exact t_isAgg _|exact t_part _ _ _|exact t_askRoom _|exact t_newRow _ _|exact t_newVar _ _|exact t_sureAddr _|exact t_runtimePanic _|exact t_asInt _|exact t_asIntOf _|exact t_asBool _|exact t_asAddr _|((with_reducible refine t_getObjB ?_ ?_ ?_);(exact fun _ _=>.inl rfl);(exact fun _ _=>.inl rfl))|exact t_choose _|exact t_loadVar _ _|exact t_shape _|(refine t_bnd ?_ ?_)|(intro _)|(refine t_ite ?_ ?_)|split|dsimp only
   | string =>
    repeat' first|contradiction|exact t_rp _ _|exact trivial|exact t_pure _|exact t_stuck _|exact t_unsupported _|exact t_goPanic _|exact t_program|exact t_typeInfo _|exact t_underlying _|exact t_sizeOf _|exact t_zeroValue _|exact t_isAgg _|exact t_part _ _ _|exact t_askRoom _|exact t_newRow _ _|exact t_newVar _ _|exact t_sureAddr _|exact t_runtimePanic _|exact t_asInt _|exact t_asIntOf _|exact t_asBool _|exact t_asAddr _|((with_reducible refine t_getObjB ?_ ?_ ?_);(exact fun _ _=>.inl rfl);(exact fun _ _=>.inl rfl))|exact t_choose _|exact t_loadVar _ _|exact t_shape _|(refine t_bnd ?_ ?_)|(intro _)|(refine t_ite ?_ ?_)|split|dsimp only
   | struct fs =>
    have ih:∀ fs',TypeDesc.struct fs=TypeDesc.struct fs'→∀ f:Field,f∈fs'→∀ x y,TT P W (Op.equalIn d f.type x y):=fun fs' e f hf x y=>by cases e;exact t_equalIn n f.type (by simp only [Array.all_eq_true_iff_forall_mem] at h;exact h f hf) d x y
    repeat' first|contradiction|exact t_rp _ _|exact trivial|exact t_pure _|exact t_stuck _|exact t_unsupported _|exact t_goPanic _|exact t_program|exact t_typeInfo _|exact t_underlying _|exact t_sizeOf _|exact t_zeroValue _|exact t_isAgg _|exact t_part _ _ _|exact t_askRoom _|exact t_newRow _ _|exact t_newVar _ _|exact t_sureAddr _|exact t_runtimePanic _|exact t_asInt _|exact t_asIntOf _|exact t_asBool _|exact t_asAddr _|((with_reducible refine t_getObjB ?_ ?_ ?_);(exact fun _ _=>.inl rfl);(exact fun _ _=>.inl rfl))|exact t_choose _|exact t_loadVar _ _|exact t_shape _|exact ih _ (by assumption) _ (by assumption) _ _|(refine t_arrayForIn' _ _ ?_ _)|(refine t_bnd ?_ ?_)|(intro _)|(refine t_ite ?_ ?_)|split|dsimp only
   | array len e =>
    have ih:∀ l' e',TypeDesc.array len e=TypeDesc.array l' e'→∀ x y,TT P W (Op.equalIn d e' x y):=fun l' e' ee x y=>by cases ee;exact t_equalIn n e h d x y
    repeat' first|contradiction|exact t_rp _ _|exact trivial|exact t_pure _|exact t_stuck _|exact t_unsupported _|exact t_goPanic _|exact t_program|exact t_typeInfo _|exact t_underlying _|exact t_sizeOf _|exact t_zeroValue _|exact t_isAgg _|exact t_part _ _ _|exact t_askRoom _|exact t_newRow _ _|exact t_newVar _ _|exact t_sureAddr _|exact t_runtimePanic _|exact t_asInt _|exact t_asIntOf _|exact t_asBool _|exact t_asAddr _|((with_reducible refine t_getObjB ?_ ?_ ?_);(exact fun _ _=>.inl rfl);(exact fun _ _=>.inl rfl))|exact t_choose _|exact t_loadVar _ _|exact t_shape _|exact ih _ _ (by assumption) _ _|(refine t_rangeForIn _ ?_ _ _)|(refine t_bnd ?_ ?_)|(intro _)|(refine t_ite ?_ ?_)|split|dsimp only
   | _=>cases h
theorem t_equalNil (d:Nat)(t e:TypeId)(h:P.underlying t=some (.pointer e))(x:Value):TT P W (Op.equalIn d t x (.pointer none)):=by
 cases d with
 | zero=>exact t_unsupported _
 | succ d =>
  unfold Op.equalIn
  refine t_und fun u hu=>?_
  rw [h] at hu
  obtain rfl:=Option.some.inj hu
  cases x with
  | pointer a=>cases a<;>exact trivial
  | _=>exact t_stuck _
theorem t_carith (op:BinOp)(k:FloatKind)(a b:Nat):TT P W (Op.Complex.arith op k a b):=by
 unfold Op.Complex.arith
 repeat' first|(with_reducible first|exact t_rp _ _|exact t_pure _|exact t_stuck _|exact t_unsupported _|exact t_goPanic _|exact t_program|exact t_typeInfo _|exact t_underlying _|exact t_sizeOf _|exact t_runtimePanic _|exact t_asInt _|exact t_asIntOf _|exact t_asBool _|exact t_asAddr _|((with_reducible refine t_getObjB ?_ ?_ ?_);(exact fun _ _=>.inl rfl);(exact fun _ _=>.inl rfl))|exact t_choose _|exact t_loadVar _ _|exact t_shape _|exact t_floatArith _ _ _ _)|exact t_unsupported _|(refine t_bnd ?_ ?_)|(intro _)|(refine t_ite ?_ ?_)|split|dsimp only
theorem t_ccmp (op:BinOp)(k:FloatKind)(a b:Nat):TT P W (Op.Complex.cmp op k a b):=by
 unfold Op.Complex.cmp
 repeat' first|(with_reducible first|exact t_rp _ _|exact t_pure _|exact t_stuck _|exact t_unsupported _|exact t_goPanic _|exact t_program|exact t_typeInfo _|exact t_underlying _|exact t_sizeOf _|exact t_runtimePanic _|exact t_asInt _|exact t_asIntOf _|exact t_asBool _|exact t_asAddr _|((with_reducible refine t_getObjB ?_ ?_ ?_);(exact fun _ _=>.inl rfl);(exact fun _ _=>.inl rfl))|exact t_choose _|exact t_loadVar _ _|exact t_shape _|exact t_floatCmp _ _ _ _)|exact t_unsupported _|(refine t_bnd ?_ ?_)|(intro _)|(refine t_ite ?_ ?_)|split|dsimp only
theorem t_floatToFloat (k:FloatKind)(a:Nat)(k':FloatKind):TT P W (Conv.floatToFloat k a k'):=by
 unfold Conv.floatToFloat
 repeat' first|(with_reducible first|exact t_rp _ _|exact t_pure _|exact t_stuck _|exact t_unsupported _|exact t_goPanic _|exact t_program|exact t_typeInfo _|exact t_underlying _|exact t_sizeOf _|exact t_runtimePanic _|exact t_asInt _|exact t_asIntOf _|exact t_asBool _|exact t_asAddr _|((with_reducible refine t_getObjB ?_ ?_ ?_);(exact fun _ _=>.inl rfl);(exact fun _ _=>.inl rfl))|exact t_choose _|exact t_loadVar _ _|exact t_shape _)|exact t_unsupported _|(refine t_bnd ?_ ?_)|(intro _)|(refine t_ite ?_ ?_)|split|dsimp only
theorem t_cconv (k:FloatKind)(a:Nat)(k':FloatKind):TT P W (Op.Complex.conv k a k'):=by
 unfold Op.Complex.conv
 repeat' first|(with_reducible first|exact t_rp _ _|exact t_pure _|exact t_stuck _|exact t_unsupported _|exact t_goPanic _|exact t_program|exact t_typeInfo _|exact t_underlying _|exact t_sizeOf _|exact t_runtimePanic _|exact t_asInt _|exact t_asIntOf _|exact t_asBool _|exact t_asAddr _|((with_reducible refine t_getObjB ?_ ?_ ?_);(exact fun _ _=>.inl rfl);(exact fun _ _=>.inl rfl))|exact t_choose _|exact t_loadVar _ _|exact t_shape _|exact t_floatToFloat _ _ _)|exact t_unsupported _|(refine t_bnd ?_ ?_)|(intro _)|(refine t_ite ?_ ?_)|split|dsimp only
theorem t_cadd (a b:Nat):TT P W (Op.Complex.add a b):=t_carith _ _ _ _
theorem t_csub (a b:Nat):TT P W (Op.Complex.sub a b):=t_carith _ _ _ _
theorem t_cmul (a b:Nat):TT P W (Op.Complex.mul a b):=t_carith _ _ _ _
theorem t_cquo (a b:Nat):TT P W (Op.Complex.quo a b):=t_carith _ _ _ _
theorem t_cproduct (a b c d:Nat):TT P W (Op.Complex.product a b c d):=by
 unfold Op.Complex.product
 repeat' first|(with_reducible first|exact t_rp _ _|exact t_pure _|exact t_stuck _|exact t_unsupported _|exact t_goPanic _|exact t_program|exact t_typeInfo _|exact t_underlying _|exact t_sizeOf _|exact t_runtimePanic _|exact t_asInt _|exact t_asIntOf _|exact t_asBool _|exact t_asAddr _|((with_reducible refine t_getObjB ?_ ?_ ?_);(exact fun _ _=>.inl rfl);(exact fun _ _=>.inl rfl))|exact t_choose _|exact t_loadVar _ _|exact t_shape _|exact t_cadd _ _|exact t_csub _ _|exact t_cmul _ _|exact t_cquo _ _)|exact t_unsupported _|(refine t_bnd ?_ ?_)|(intro _)|(refine t_ite ?_ ?_)|split|dsimp only
theorem t_ccorrected (s a b c d:Nat):TT P W (Op.Complex.corrected s a b c d):=by
 unfold Op.Complex.corrected
 repeat' first|(with_reducible first|exact t_rp _ _|exact t_pure _|exact t_stuck _|exact t_unsupported _|exact t_goPanic _|exact t_program|exact t_typeInfo _|exact t_underlying _|exact t_sizeOf _|exact t_runtimePanic _|exact t_asInt _|exact t_asIntOf _|exact t_asBool _|exact t_asAddr _|((with_reducible refine t_getObjB ?_ ?_ ?_);(exact fun _ _=>.inl rfl);(exact fun _ _=>.inl rfl))|exact t_choose _|exact t_loadVar _ _|exact t_shape _|exact t_cadd _ _|exact t_csub _ _|exact t_cmul _ _|exact t_cquo _ _)|exact t_unsupported _|(refine t_bnd ?_ ?_)|(intro _)|(refine t_ite ?_ ?_)|split|dsimp only
theorem t_cquotient (a b c d:Nat):TT P W (Op.Complex.quotient a b c d):=by
 unfold Op.Complex.quotient
 repeat' first|(with_reducible first|exact t_rp _ _|exact t_pure _|exact t_stuck _|exact t_unsupported _|exact t_goPanic _|exact t_program|exact t_typeInfo _|exact t_underlying _|exact t_sizeOf _|exact t_runtimePanic _|exact t_asInt _|exact t_asIntOf _|exact t_asBool _|exact t_asAddr _|((with_reducible refine t_getObjB ?_ ?_ ?_);(exact fun _ _=>.inl rfl);(exact fun _ _=>.inl rfl))|exact t_choose _|exact t_loadVar _ _|exact t_shape _|exact t_cadd _ _|exact t_csub _ _|exact t_cmul _ _|exact t_cquo _ _|exact t_ccmp _ _ _ _|exact t_ccorrected _ _ _ _ _)|exact t_unsupported _|(refine t_bnd ?_ ?_)|(intro _)|(refine t_ite ?_ ?_)|split|dsimp only
theorem t_complexOp (op:BinOp)(k:FloatKind)(a b c d:Nat):TT P W (Op.complexOp op k a b c d):=by
 unfold Op.complexOp
 repeat' first|(with_reducible first|exact t_rp _ _|exact t_pure _|exact t_stuck _|exact t_unsupported _|exact t_goPanic _|exact t_program|exact t_typeInfo _|exact t_underlying _|exact t_sizeOf _|exact t_runtimePanic _|exact t_asInt _|exact t_asIntOf _|exact t_asBool _|exact t_asAddr _|((with_reducible refine t_getObjB ?_ ?_ ?_);(exact fun _ _=>.inl rfl);(exact fun _ _=>.inl rfl))|exact t_choose _|exact t_loadVar _ _|exact t_shape _|exact t_carith _ _ _ _|exact t_ccmp _ _ _ _|exact t_cconv _ _ _|exact t_cproduct _ _ _ _|exact t_cquotient _ _ _ _)|exact t_unsupported _|(refine t_bnd ?_ ?_)|(intro _)|(refine t_ite ?_ ?_)|split|dsimp only
theorem t_binOp (op:BinOp)(t:TypeId)(x y:Value)(h:∀ x,op=.eql∨op=.neq→TT P W (Op.equalIn Op.maxDepth t x y)):TT P W (binOp op t x y):=by
 have h1:∀ x,op=.eql→TT P W (Op.equal t x y):=fun x e=>h x (.inl e)
 have h2:∀ x,op=.neq→TT P W (Op.equal t x y):=fun x e=>h x (.inr e)
 unfold binOp
 repeat' first|(with_reducible first|exact t_rp _ _|exact t_pure _|exact t_stuck _|exact t_unsupported _|exact t_goPanic _|exact t_program|exact t_typeInfo _|exact t_underlying _|exact t_sizeOf _|exact t_runtimePanic _|exact t_asInt _|exact t_asIntOf _|exact t_asBool _|exact t_asAddr _|((with_reducible refine t_getObjB ?_ ?_ ?_);(exact fun _ _=>.inl rfl);(exact fun _ _=>.inl rfl))|exact t_choose _|exact t_loadVar _ _|exact t_shape _|exact t_shift _ _ _ _ _|exact t_intArith _ _ _ _|exact t_intDiv _ _ _ _|exact t_intBits _ _ _ _|exact t_intCmp _ _ _|exact t_floatArith _ _ _ _|exact t_floatCmp _ _ _ _|exact t_complexOp _ _ _ _ _ _|exact t_stringOp _ _ _|exact h1 _ rfl|exact h2 _ rfl|exact t_movedNumber _ _ _|exact t_movedPointer _ _ _|exact t_behindNumber _|exact t_addrSub _ _ _|exact t_addrCmp _ _ _|exact t_addrMod _ _ _)|exact t_unsupported _|(refine t_bnd ?_ ?_)|(intro _)|(refine t_ite ?_ ?_)|split|dsimp only
variable {P:Program} {W:Prop}
set_option linter.unusedSimpArgs false
theorem t_get (t:TypeId)(x:Place):TT P W (x.get t):=by
 cases x with
 | val v=>exact trivial
 | var a=>exact t_loadVar _ _
theorem t_follow:∀ (l:List FieldStep) (t:TypeId) (x:Place),TT P W (follow l t x)
 | [],_,_=>trivial
 | s::rest,t,x=>by
  unfold follow
  repeat' first|(with_reducible first|exact t_rp _ _|exact t_pure _|exact t_stuck _|exact t_unsupported _|exact t_goPanic _|exact t_program|exact t_typeInfo _|exact t_underlying _|exact t_sizeOf _|exact t_runtimePanic _|exact t_asInt _|exact t_asIntOf _|exact t_asBool _|exact t_asAddr _|((with_reducible refine t_getObjB ?_ ?_ ?_);(exact fun _ _=>.inl rfl);(exact fun _ _=>.inl rfl))|exact t_choose _|exact t_loadVar _ _|exact t_shape _|exact t_get _ _|exact t_follow rest _ _|exact t_fieldPlace _ _|exact t_part _ _ _)|exact t_unsupported _|(refine t_bnd ?_ ?_)|(intro _)|(refine t_ite ?_ ?_)|split|dsimp only
theorem t_wrapNil (ts:Array TypeId)(t:TypeId)(vs:Array Value):TT P W (Builtin.ssaWrapNilChk_ ts t vs):=by
 unfold Builtin.ssaWrapNilChk_
 rcases vs with ⟨_|⟨x,_|⟨y,_|⟨z,_|⟨u,l⟩⟩⟩⟩⟩<;>first|exact t_stuck _|skip
 cases y<;>first|exact t_stuck _|skip
 cases z<;>first|exact t_stuck _|skip
 cases x<;>first|exact t_stuck _|skip
 rename_i a
 cases a with
 | some a=>exact t_pure _
 | none =>
 refine t_bnd (t_choose _) fun n=>?_
 repeat' first|(with_reducible first|exact t_rp _ _|exact t_pure _|exact t_stuck _|exact t_unsupported _|exact t_goPanic _|exact t_program|exact t_typeInfo _|exact t_underlying _|exact t_sizeOf _|exact t_runtimePanic _|exact t_asInt _|exact t_asIntOf _|exact t_asBool _|exact t_asAddr _|((with_reducible refine t_getObjB ?_ ?_ ?_);(exact fun _ _=>.inl rfl);(exact fun _ _=>.inl rfl))|exact t_choose _|exact t_loadVar _ _|exact t_shape _)|exact t_unsupported _|(refine t_bnd ?_ ?_)|(intro _)|(refine t_ite ?_ ?_)|split|dsimp only
theorem t_receiverAt (t:TypeId)(x:Place)(b:Bool)(n:Option String):TT P W (receiverAt t x b n):=by
 unfold receiverAt
 repeat' first|(with_reducible first|exact t_rp _ _|exact t_pure _|exact t_stuck _|exact t_unsupported _|exact t_goPanic _|exact t_program|exact t_typeInfo _|exact t_underlying _|exact t_sizeOf _|exact t_runtimePanic _|exact t_asInt _|exact t_asIntOf _|exact t_asBool _|exact t_asAddr _|((with_reducible refine t_getObjB ?_ ?_ ?_);(exact fun _ _=>.inl rfl);(exact fun _ _=>.inl rfl))|exact t_choose _|exact t_loadVar _ _|exact t_shape _|exact t_get _ _|exact t_wrapNil _ _ _)|exact t_unsupported _|(refine t_bnd ?_ ?_)|(intro _)|(refine t_ite ?_ ?_)|split|dsimp only
def MethOk (P:Program)(C:FuncId→Prop)(name:String):Prop :=
 ∀ t i m f b,P.info? t=some i→i.methods.find? (·.name == name)=some m→m.func=some (f,b)→C f
theorem t_method {C:FuncId→Prop}{name:String}(h:MethOk P C name):∀ (n:Nat) (t:TypeId) (v:Value),Tame P W (fun r=>C r.1) (method n t v name)
 | 0,_,_=>t_unsupported _
 | n+1,t,v=>by
  unfold method
  refine t_info fun i hi=>?_
  split
  ·rename_i m hm
   refine t_bnd (t_follow _ _ _) fun r=>?_
   split
   split
   ·refine t_bnd (t_get _ _) fun y=>?_
    split
    ·exact t_method h n _ _
    ·exact t_runtimePanic _
    ·exact t_stuck _
   ·rename_i f b hf
    exact t_bind (t_receiverAt _ _ _ _) fun _ _=>h t i m f b hi hm hf
  ·exact t_stuck _
def Comesto (S:FuncId→Prop):Next→Prop
 | .value _=>True
 | .skip=>True
 | .enter f _=>S f
 | _=>False
def CallOk (P:Program)(S:FuncId→Prop)(f:FuncId):Prop :=
 ∃ fn,P.funcs[f]?=some fn∧(fn.name == "runtime.NumGoroutine")=false ∧
  ((fn.body.isNone=false∧S f)∨(fn.body.isNone=true∧Extern.findNext fn=none∧Extern.find fn=none∧(fn.name.endsWith ".init" && !fn.name.startsWith "(" && !fn.name.startsWith "gosem.")=false))
theorem t_callFunc {S:FuncId→Prop}{f:FuncId}(h:CallOk P S f)(args:Array Value):Tame P W (Comesto S) (callFunc f args):=by
 obtain ⟨fn,hf,hn,h⟩:=h
 show Tame P W (Comesto S) (match P.funcs[f]? with
  | none=>stuck "call: no such function"
  | some fn=>_)
 rw [hf]
 dsimp only
 rw [hn]
 simp only [Bool.false_eq_true,if_false]
 rcases h with ⟨h1,h2⟩|⟨h1,h2,h3,h4⟩
 ·rw [h1]
  simp only [Bool.false_eq_true,if_false]
  exact h2
 ·rw [h1]
  simp only [if_true]
  refine ⟨by simp,by simp,?_⟩
  rw [h2,h3]
  dsimp only
  rw [h4]
  exact t_unsupported _
theorem t_callMethod {S:FuncId→Prop}{name:String}(h:MethOk P (CallOk P S) name)(recv:Value)(args:Array Value):Tame P W (Comesto S) (callMethod recv name args):=by
 unfold callMethod
 split
 ·exact t_prog (t_bind (t_method h _ _ _) fun r hr=>t_callFunc hr _)
 ·exact t_runtimePanic _
 ·exact t_stuck _
variable {P:Program} {W:Prop}
set_option linter.unusedSimpArgs false
theorem t_followBlind:∀ (l:List FieldStep) (t:TypeId) (x:Option Value),TT P W (followBlind l t x)
 | [],_,_=>trivial
 | s::rest,t,x=>by
  unfold followBlind
  repeat' first|(with_reducible first|exact t_rp _ _|exact t_pure _|exact t_stuck _|exact t_unsupported _|exact t_goPanic _|exact t_program|exact t_typeInfo _|exact t_underlying _|exact t_sizeOf _|exact t_runtimePanic _|exact t_asInt _|exact t_asIntOf _|exact t_asBool _|exact t_asAddr _|((with_reducible refine t_getObjB ?_ ?_ ?_);(exact fun _ _=>.inl rfl);(exact fun _ _=>.inl rfl))|exact t_choose _|exact t_loadVar _ _|exact t_shape _|exact t_followBlind rest _ _|exact t_part _ _ _)|exact t_unsupported _|(refine t_bnd ?_ ?_)|(intro _)|(refine t_ite ?_ ?_)|split|dsimp only
theorem t_nilAhead:∀ (n:Nat) (t:TypeId) (v:Value) (name:String),TT P W (nilAhead n t v name)
 | 0,_,_,_=>trivial
 | n+1,t,v,name=>by
  unfold nilAhead
  repeat' first|(with_reducible first|exact t_rp _ _|exact t_pure _|exact t_stuck _|exact t_unsupported _|exact t_goPanic _|exact t_program|exact t_typeInfo _|exact t_underlying _|exact t_sizeOf _|exact t_runtimePanic _|exact t_asInt _|exact t_asIntOf _|exact t_asBool _|exact t_asAddr _|((with_reducible refine t_getObjB ?_ ?_ ?_);(exact fun _ _=>.inl rfl);(exact fun _ _=>.inl rfl))|exact t_choose _|exact t_loadVar _ _|exact t_shape _|exact t_followBlind _ _ _|exact t_nilAhead n _ _ _)|exact t_unsupported _|(refine t_bnd ?_ ?_)|(intro _)|(refine t_ite ?_ ?_)|split|dsimp only
def okOp (P:Program)(S:FuncId→Bool)(meths:List String)(st:Bool)(o:Op):Bool :=
 match o with
 | .alloc _|.store _ _ _=>st
 | .move _|.assign _|.pick _ _ _|.box _ _|.build _ _|.buildSlice _ _ _|.load _ _|.makeChan _ _|.unOp _ _ _|.makeInterface _ _|.makeSlice _ _ _|.slice _ _ _ _ _|.fieldAddr _ _ _|.field _ _ _|.indexAddr _ _ _|.index _ _ _|.typeAssert _ _ _ _|.extract _ _|.nilCheck _=>true
 | .binOp op t _ y _=>(match op with|.eql|.neq=>false|_=>true) || eqPlain P 10 t || ((match P.underlying t with|some (.pointer _)=>true|_=>false) && (match y with|.const (.pointer none)=>true|_=>false))
 | .call { callee:=.builtin b,.. }=>(match b with|.len|.cap=>true|.append|.copy=>st|_=>false)
 | .call { callee:=.invoke _ m,.. }=>meths.contains m
 | .call { callee:=.value (.func f),.. }=>S f
 | _=>false
theorem t_val {Sp:FuncId→Prop}{s:Sem Value}(h:TT P W s):Tame P W (Comesto Sp) (do pure (.value (← s))):=t_bind h fun _ _=>trivial
theorem t_unit {Sp:FuncId→Prop}{s:Sem Unit}(h:TT P W s):Tame P W (Comesto Sp) (do s;pure .skip):=t_bind h fun _ _=>trivial
theorem t_execOp {S:FuncId→Bool}{meths:List String}{st:Bool}(hst:st=true→W)(hS:∀ f,S f=true→CallOk P (fun f=>S f=true) f)(hM:∀ m∈meths,MethOk P (CallOk P (fun f=>S f=true)) m)
  {ρ:Operand→Value}(hc:∀ v,ρ (.const v)=v)(hf:∀ f,ρ (.func f)=.func (.func f) #[] #[])(o:Oper)(h:okOp P S meths st o.op=true):Tame P W (Comesto (fun f=>S f=true)) (execOp ρ o):=by
 unfold execOp
 cases e:o.op<;>rw [e] at h<;>first|cases h|dsimp only
 case move x=>exact trivial
 case assign x=>exact trivial
 case pick c a b=>exact t_bnd (t_asBool _) fun _=>trivial
 case alloc t=>exact t_val (t_alloc (hst rfl) _ _ _)
 case box t x=>exact t_val (t_box _ _)
 case build t ps=>exact t_val (t_build _ _)
 case buildSlice t n ps=>exact t_val (t_buildSlice _ _ _)
 case load t a=>exact t_val (t_loadAt _ _)
 case store t a x=>exact t_unit (t_storeAt (hst rfl) _ _ _)
 case makeChan t x=>exact t_val (t_makeChan _ _)
 case nilCheck x =>
  dsimp only
  split
  ·exact t_runtimePanic _
  ·exact t_runtimePanic _
  ·exact t_runtimePanic _
  ·split
   ·exact t_runtimePanic _
   ·refine t_bnd t_program fun p=>t_bnd (t_nilAhead _ _ _ _) fun b=>?_
    split
    ·exact t_unsupported _
    ·exact trivial
   ·exact trivial
  ·exact trivial
 case binOp op t x y u =>
  refine t_val (t_bnd (t_eqGuard _ _ _ _ _ _) fun _=>t_binOp _ _ _ _ fun x' hop=>?_)
  unfold okOp at h
  dsimp only at h
  rw [Bool.or_eq_true,Bool.or_eq_true,Bool.and_eq_true] at h
  rcases h with (h|h)|⟨h1,h2⟩
  ·rcases hop with rfl|rfl<;>cases h
  ·exact t_equalIn 10 t h _ _ _
  ·split at h1
   ·rename_i e' hu
    split at h2
    ·rw [hc];exact t_equalNil _ _ _ hu _
    ·cases h2
   ·cases h1
 case unOp op t x=>exact t_val (t_unary _ _)
 case makeInterface t x=>exact t_val (t_makeInterface _ _)
 case makeSlice t l c=>exact t_val (t_makeSlice _ _ _)
 case slice t x a b c=>exact t_val (t_sliceAt _ _ _ _ _)
 case fieldAddr t x i=>exact t_val (t_fieldAt _ _ _)
 case field t x i=>exact t_val (t_field _ _ _)
 case indexAddr t x i=>exact t_val (t_indexAt _ _ _)
 case index t x i=>exact t_val (t_index _ _ _)
 case typeAssert x t u b=>exact t_val (t_typeAssert _ _ _ _)
 case extract x i=>exact t_val (t_extract _ _)
 case call c =>
  obtain ⟨callee,args,ats⟩:=c
  cases callee with
  | builtin b =>
   show Tame P W _ (builtin b ats o.type _ _)
   cases b<;>first|cases h|skip
   ·exact t_val (t_append (hst rfl) _ _ _)
   ·exact t_val (t_cap _ _ _)
   ·exact t_val (t_copy (hst rfl) _ _ _)
   ·exact t_val (t_len _ _ _)
  | invoke r m =>
   have hm:m∈meths:=by simpa [okOp] using h
   show Tame P W _ (invoke (.fn (.method m) #[]) (#[ρ r] ++ args.map ρ))
   unfold invoke
   dsimp only
   split
   ·exact t_callMethod (hM m hm) _ _
   ·exact t_stuck _
  | value f =>
   cases f with
   | func f =>
    show Tame P W _ (Deferred.ofValue (ρ (.func f)) _ >>= _)
    rw [hf]
    exact t_callFunc (hS f h) _
   | _=>cases h
variable {P:Program} {S:FuncId→Bool} {meths:List String} {st:Bool} {sft:Nat→Nat}
set_option linter.unusedSimpArgs false
def okCode (P:Program)(S:FuncId→Bool)(meths:List String)(st:Bool):Code→Bool
 | .skip|.exit _|.ret|.label _=>true
 | .region _ ops _=>ops.all fun o=>okOp P S meths st o.op
 | .seq a b=>okCode P S meths st a && okCode P S meths st b
 | .cond _ a b=>okCode P S meths st a && okCode P S meths st b
 | .block _ a=>okCode P S meths st a
 | .loop a=>okCode P S meths st a
 | _=>false
def okItem (P:Program)(S:FuncId→Bool)(meths:List String)(st:Bool):Item→Prop
 | .code c=>okCode P S meths st c=true
 | .inBlock _=>True
 | .inLoop c=>okCode P S meths st c=true
 | .inRegion ops _=>(ops.all fun o=>okOp P S meths st o.op)=true
 | _=>False
structure Rules (P:Program) (S:FuncId→Bool) (meths:List String) (st:Bool):Prop where
 body:∀ f,S f=true→∃ fn c,P.funcs[f]?=some fn∧(fn.name == "runtime.NumGoroutine")=false∧fn.body=some c∧okCode P S meths st c=true
 meth:∀ m∈meths,MethOk P (CallOk P (fun f=>S f=true)) m
theorem Rules.call (h:Rules P S meths st)(f:FuncId)(hf:S f=true):CallOk P (fun f=>S f=true) f:=by
 obtain ⟨fn,c,h1,h2,h3,_⟩:=h.body f hf
 exact ⟨fn,h1,h2,.inl ⟨by rw [h3];rfl,hf⟩⟩
structure OkF (P:Program) (S:FuncId→Bool) (meths:List String) (st:Bool) (fr:Frame):Prop where
 kind:fr.kind=.normal
 round:fr.roundOf=none
 defers:fr.defers=[]
 fn:∃ fn,P.funcs[fr.fn]?=some fn
 todo:∀ x∈fr.todo,okItem P S meths st x
theorem OkF.enter (h:Rules P S meths st){f:FuncId}(hf:S f=true)(args:Array Value):OkF P S meths st (Frame.enter P f args .normal):=by
 obtain ⟨fn,c,h1,_,h3,h4⟩:=h.body f hf
 refine ⟨rfl,rfl,rfl,⟨fn,h1⟩,fun x hx=>?_⟩
 simp only [Frame.enter,h1,Option.bind_some,h3,Option.getD_some,List.mem_cons,List.not_mem_nil,or_false] at hx
 subst hx
 exact h4
theorem OkF.raise {fr:Frame}(h:OkF P S meths st fr)(chain:List PanicEntry):OkF P S meths st (fr.raise chain):=by
 unfold Frame.raise
 split<;>exact ⟨h.kind,h.round,h.defers,h.fn,h.todo⟩
theorem OkF.put {fr:Frame}(h:OkF P S meths st fr){todo:List Item}(ht:∀ x∈todo,okItem P S meths st x)(tmps:Array Value)(m:FrameMode):OkF P S meths st { fr with tmps:=tmps,todo:=todo,mode:=m } :=
 ⟨h.kind,h.round,h.defers,h.fn,ht⟩
theorem OkF.finish {fr:Frame}(h:OkF P S meths st fr)(v:Value):OkF P S meths st (fr.finish v):=by
 have ht:=h.todo
 unfold Frame.finish
 split
 ·rename_i ops i rest k e
  rw [e] at ht
  refine ⟨h.kind,h.round,h.defers,h.fn,fun x hx=>?_⟩
  rcases List.mem_cons.1 hx with rfl|hx
  ·exact ht (.inRegion ops (i::rest)) (List.mem_cons_self ..)
  ·exact ht _ (List.mem_cons_of_mem _ hx)
 ·rename_i e;rw [e] at ht;exact (ht _ (List.mem_cons_self ..)).elim
 ·rename_i e;rw [e] at ht;exact (ht _ (List.mem_cons_self ..)).elim
 ·rename_i e;rw [e] at ht;exact (ht _ (List.mem_cons_self ..)).elim
 ·rename_i e;rw [e] at ht;exact (ht _ (List.mem_cons_self ..)).elim
 ·exact h
def _root_.Go.GStep.wd:GStep→Nat
 | .go _ w _=>w.drawn
 | .ended _ w _=>w.drawn
 | _=>0
theorem wd_after (es:Array Event)(s:GStep):(GStep.after es s).wd=s.wd:=by cases s<;>rfl
theorem mem_seen {fn:FuncId}{es:Array Event}{e:Event}(h:e∈seen P fn es):e∈es:=by
 have key:∀ (l:List Event) (x:Bool × Array Event),e∈(l.foldl (fun (x:Bool × Array Event) e =>
   match e.loc with
   | .mark (.extern f)=>((P.funcs[f]?).any (·.norace),x.2)
   | _=>(x.1,if x.1 && !e.sync then x.2 else x.2.push e)) x).2→e∈x.2∨e∈l:=by
  intro l
  induction l with
  | nil=>exact fun x h=>.inl h
  | cons a l ih =>
   intro x h
   simp only [List.foldl_cons] at h
   rcases ih _ h with h|h
   ·split at h
    ·exact .inl h
    ·dsimp only at h
     split at h
     ·exact .inl h
     ·rcases Array.mem_push.1 h with h|rfl
      ·exact .inl h
      ·exact .inr (List.mem_cons_self ..)
   ·exact .inr (List.mem_cons_of_mem _ h)
 dsimp only [seen] at h
 rw [← Array.foldl_toList] at h
 rcases key es.toList _ h with h|h
 ·simp at h
 ·exact Array.mem_toList_iff.1 h
structure Both (st:Bool) (sft:Nat→Nat) (v v' w w':World) (es:Array Event):Prop where
 lk:Lk sft v' w'
 kept:Kept sft w w'
 off:∀ e∈es,Off sft (st=true) w'.heap.size e
 drew:∃ c,Drew c v v' w w'
theorem Both.still {v w:World}(h:Lk sft v w):Both st sft v v w w #[]:=⟨h,.refl _ _,fun e he=>by simp at he,0,.zero _ _⟩
theorem choose_drawn {w w':World}{q:Question}{n:Nat}(h:(choose q).run P w=.ok n w'):w.drawn≤w'.drawn:=by
 simp only [choose,Sem.run] at h
 split at h
 ·obtain ⟨_,rfl⟩:=Result.ok.inj h;exact Nat.le_refl _
 ·obtain ⟨_,rfl⟩:=Result.ok.inj h;exact Nat.le_succ _
theorem choose_halt {w w':World}{q:Question}{x:Halt}(h:(choose q).run P w=.halt x w'):w.drawn≤w'.drawn:=by
 simp only [choose,Sem.run] at h
 split at h<;>cases h
theorem early_wd {fr:Frame}{cs:List Frame}{dy:Option Dying}{g:Nat}{w:World}:w.drawn≤(early P fr cs dy g w).wd:=by
 unfold early
 dsimp only
 repeat' split
 all_goals first
  | exact Nat.le_refl _
  | (simp only [GStep.wd];exact choose_drawn (P:=P) (by assumption:(choose (.early g)).run P w=.ok _ _))
  | (simp only [GStep.wd];rename_i hh;exact choose_drawn (P:=P) hh)
  | (simp only [GStep.wd];rename_i hh;exact choose_halt (P:=P) hh)
  | (simp only [GStep.wd];rename_i hh _;exact choose_drawn (P:=P) hh)
  | (simp only [GStep.wd];rename_i hh _ _;exact choose_drawn (P:=P) hh)
  | (simp only [GStep.wd];rename_i hh _ _ _;exact choose_drawn (P:=P) hh)
  | (simp only [GStep.wd];rename_i hh _ _ _ _;exact choose_drawn (P:=P) hh)
open Go.Conc (G)
def _root_.Go.Frame.app (fr:Frame)(k:List Item):Frame:={ fr with todo:=fr.todo ++ k }
theorem apply_sim {fr:Frame}(hF:OkF P S meths st fr){s:Sem Next}(hs:Tame P (st=true) (Comesto (fun f=>S f=true)) s){v w:World}(hl:Lk sft v w){N:Nat}(hw:Win N v w){cs cs':List Frame}{kk kk':List Item}
    (hN:(stepG.apply P true (fr.app kk) cs none s w).wd≤w.drawn+N){ops:Array Oper}{l:List Nat}{k:List Item}(ht:fr.todo=.inRegion ops l::k) :
    (∃ o v' es,stepG.apply P true (fr.app kk') cs' none s v=.ended o v' es)∨∃ v' w' es,Both st sft v v' w w' es ∧
      ((∃ x,stepG.apply P true (fr.app kk') cs' none s v=.go (G ((fr.app kk').finish x) cs') v' es∧stepG.apply P true (fr.app kk) cs none s w=.go (G ((fr.app kk).finish x) cs) w' es) ∨
       (∃ f args,S f=true∧stepG.apply P true (fr.app kk') cs' none s v=.go (G (Frame.enter P f args .normal) (fr.app kk'::cs')) v' es∧stepG.apply P true (fr.app kk) cs none s w=.go (G (Frame.enter P f args .normal) (fr.app kk::cs)) w' es) ∨
       (∃ ch,stepG.apply P true (fr.app kk') cs' none s v=.go (G ((fr.app kk').raise ch) cs') v' es∧stepG.apply P true (fr.app kk) cs none s w=.go (G ((fr.app kk).raise ch) cs) w' es)):=by
  obtain ⟨fn,tmps,todo,defers,mode,kind,round⟩:=fr
  obtain rfl:todo=.inRegion ops l::k:=ht
  dsimp only [Frame.app,List.cons_append] at hN ⊢
  have hearly:(kind == CallKind.early)=false:=by rw [show kind=.normal from hF.kind];rfl
  have hNr:(s.runT P w #[]).1.world.drawn≤w.drawn+N:=by
    revert hN
    unfold stepG.apply
    rcases t_ends P s (st=true) _ w #[] hs with ⟨a,w',es',e,hp⟩|⟨x,w',es',e⟩|⟨x,w',es',e,hb⟩
    · simp only [if_true,e,wd_after]
      cases a<;>first|exact hp.elim|exact id
    · simp only [if_true,e,wd_after]
      exact id
    · simp only [if_true,e,wd_after]
      rcases hb with hb|⟨g,rfl⟩
      · cases x with
        | unsupported u=>cases u<;>first|exact hb.elim|exact id
        | _=>first|exact hb.elim|exact id
      · exact fun h=>Nat.le_trans early_wd h
  have key:=lk_run P s (st=true) _ (v:=v) (w:=w) #[] N hs hl hw hNr
  unfold stepG.apply
  simp only [if_true,hearly,Bool.false_eq_true,if_false]
  revert key
  generalize s.runT P v #[]=rv
  generalize s.runT P w #[]=rw'
  intro key
  have offs:∀ {es':Array Event} {n:Nat},Lists sft (st=true) n #[] es'→∀ e∈seen P fn es' ++ #[],Off sft (st=true) n e:=fun hli e he=>by
    rw [Array.append_empty] at he
    rcases hli e (mem_seen he) with h|h
    · simp at h
    · exact h
  cases key with
  | @ok a v' w' es' c hp h1 h2 h3 h4 =>
    refine .inr ⟨v',w',seen P fn es' ++ #[],⟨h1,h2,offs h3,c,h4⟩,?_⟩
    cases a with
    | value x=>exact .inl ⟨x,rfl,rfl⟩
    | skip=>exact .inl ⟨undef,rfl,rfl⟩
    | enter f args=>exact .inr (.inl ⟨f,args,hp,rfl,rfl⟩)
    | _=>exact hp.elim
  | @panic x v' w' es' c h1 h2 h3 h4 =>
    exact .inr ⟨v',w',seen P fn es' ++ #[],⟨h1,h2,offs h3,c,h4⟩,.inr (.inr ⟨_,rfl,rfl⟩)⟩
  | @lost x v' es' r hb =>
    refine .inl ?_
    cases x with
    | unsupported u=>cases u<;>first|exact hb.elim|exact ⟨_,_,_,rfl⟩
    | stuck m=>exact ⟨_,_,_,rfl⟩
    | _=>exact hb.elim
end Go.Proofs.YtcgabodkegcpgaaDoor.Br
