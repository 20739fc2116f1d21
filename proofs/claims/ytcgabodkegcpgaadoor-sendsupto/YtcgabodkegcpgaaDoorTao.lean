/- The bridge: every operation that the program uses where it does not meet others is tame. -/
import Derived.Test.YtcgabodkegcpgaaDoorTam
import Derived.Laws.Sem
set_option linter.unusedVariables false
set_option linter.unusedSimpArgs false
set_option maxHeartbeats 20000000
set_option maxRecDepth 100000
namespace Go.Proofs.YtcgabodkegcpgaaDoor.Br
variable {P:Program} {W:Prop}
theorem t_shape (r:Nat):TT P W (shape r):=fun _=>trivial
theorem t_newObj (o:Go.Obj)(h:Obj.sight o:=by trivial):TT P W (newObj o):=⟨h,fun _=>trivial⟩
theorem t_listMapM {α β:Type}(f:α→Sem β)(h:∀ a,TT P W (f a)):∀ l:List α,TT P W (l.mapM f)
 | []=>by simp only [List.mapM_nil];exact trivial
 | a::l=>by
  simp only [List.mapM_cons]
  exact t_bnd (h a) fun _=>t_bnd (t_listMapM f h l) fun _=>trivial
theorem t_mapM {α β:Type}(f:α→Sem β)(h:∀ a,TT P W (f a))(xs:Array α):TT P W (xs.mapM f):=by
 rw [Array.mapM_eq_mapM_toList]
 exact t_map _ (t_listMapM f h _)
theorem t_listForIn {α β:Type}(f:α→β→Sem (ForInStep β))(h:∀ a b,TT P W (f a b)):∀ (l:List α) (b:β),TT P W (forIn l b f)
 | [],b=>by simp only [List.forIn_nil];exact trivial
 | a::l,b=>by
  simp only [List.forIn_cons]
  refine t_bnd (h a b) fun s=>?_
  cases s with
  | done b=>exact trivial
  | yield b=>exact t_listForIn f h l b
theorem t_arrayForIn {α β:Type}(f:α→β→Sem (ForInStep β))(h:∀ a b,TT P W (f a b))(xs:Array α)(b:β):TT P W (forIn xs b f):=by
 rw [← Array.forIn_toList]
 exact t_listForIn f h _ _
theorem t_rangeForIn {β:Type}(f:Nat→β→Sem (ForInStep β))(h:∀ a b,TT P W (f a b))(r:Std.Legacy.Range)(b:β):TT P W (forIn r b f):=by
 rw [Std.Legacy.Range.forIn_eq_forIn_range']
 exact t_listForIn f h _ _
theorem t_len (ts:Array TypeId)(t:TypeId)(vs:Array Value):TT P W (Builtin.len_ ts t vs):=by
 unfold Builtin.len_
 repeat' first|exact t_rp _ _|exact trivial|exact t_pure _|exact t_stuck _|exact t_unsupported _|exact t_goPanic _|exact t_program|exact t_typeInfo _|exact t_underlying _|exact t_sizeOf _|exact t_zeroValue _|exact t_isAgg _|exact t_part _ _ _|exact t_askRoom _|exact t_newRow _ _|exact t_newVar _ _|exact t_sureAddr _|exact t_runtimePanic _|exact t_asInt _|exact t_asIntOf _|exact t_asBool _|exact t_asAddr _|((with_reducible refine t_getObjB ?_ ?_ ?_);(exact fun _ _=>.inl rfl);(exact fun _ _=>.inl rfl))|exact t_choose _|exact t_loadVar _ _|exact t_shape _|(refine t_bnd ?_ ?_)|(intro _)|(refine t_ite ?_ ?_)|split|dsimp only
theorem t_cap (ts:Array TypeId)(t:TypeId)(vs:Array Value):TT P W (Builtin.cap_ ts t vs):=by
 unfold Builtin.cap_
 repeat' first|exact t_rp _ _|exact trivial|exact t_pure _|exact t_stuck _|exact t_unsupported _|exact t_goPanic _|exact t_program|exact t_typeInfo _|exact t_underlying _|exact t_sizeOf _|exact t_zeroValue _|exact t_isAgg _|exact t_part _ _ _|exact t_askRoom _|exact t_newRow _ _|exact t_newVar _ _|exact t_sureAddr _|exact t_runtimePanic _|exact t_asInt _|exact t_asIntOf _|exact t_asBool _|exact t_asAddr _|((with_reducible refine t_getObjB ?_ ?_ ?_);(exact fun _ _=>.inl rfl);(exact fun _ _=>.inl rfl))|exact t_choose _|exact t_loadVar _ _|exact t_shape _|(refine t_bnd ?_ ?_)|(intro _)|(refine t_ite ?_ ?_)|split|dsimp only
theorem t_numberAt (r:Nat):TT P W (numberAt r):=by
 unfold numberAt
 repeat' first|exact t_rp _ _|exact trivial|exact t_pure _|exact t_stuck _|exact t_unsupported _|exact t_goPanic _|exact t_program|exact t_typeInfo _|exact t_underlying _|exact t_sizeOf _|exact t_zeroValue _|exact t_isAgg _|exact t_part _ _ _|exact t_askRoom _|exact t_newRow _ _|exact t_newVar _ _|exact t_sureAddr _|exact t_runtimePanic _|exact t_asInt _|exact t_asIntOf _|exact t_asBool _|exact t_asAddr _|((with_reducible refine t_getObjB ?_ ?_ ?_);(exact fun _ _=>.inl rfl);(exact fun _ _=>.inl rfl))|exact t_choose _|exact t_loadVar _ _|exact t_shape _|(refine t_bnd ?_ ?_)|(intro _)|(refine t_ite ?_ ?_)|split|dsimp only
theorem t_behindNumber (n:Addr):TT P W (behindNumber n):=by
 unfold behindNumber
 repeat' first|exact t_rp _ _|exact trivial|exact t_pure _|exact t_stuck _|exact t_unsupported _|exact t_goPanic _|exact t_program|exact t_typeInfo _|exact t_underlying _|exact t_sizeOf _|exact t_zeroValue _|exact t_isAgg _|exact t_part _ _ _|exact t_askRoom _|exact t_newRow _ _|exact t_newVar _ _|exact t_sureAddr _|exact t_runtimePanic _|exact t_asInt _|exact t_asIntOf _|exact t_asBool _|exact t_asAddr _|((with_reducible refine t_getObjB ?_ ?_ ?_);(exact fun _ _=>.inl rfl);(exact fun _ _=>.inl rfl))|exact t_choose _|exact t_loadVar _ _|exact t_shape _|exact t_numberAt _|(refine t_bnd ?_ ?_)|(intro _)|(refine t_ite ?_ ?_)|split|dsimp only
theorem t_noView (a:Addr):TT P W (noView a):=by
 unfold noView
 repeat' first|exact t_rp _ _|exact trivial|exact t_pure _|exact t_stuck _|exact t_unsupported _|exact t_goPanic _|exact t_program|exact t_typeInfo _|exact t_underlying _|exact t_sizeOf _|exact t_zeroValue _|exact t_isAgg _|exact t_part _ _ _|exact t_askRoom _|exact t_newRow _ _|exact t_newVar _ _|exact t_sureAddr _|exact t_runtimePanic _|exact t_asInt _|exact t_asIntOf _|exact t_asBool _|exact t_asAddr _|((with_reducible refine t_getObjB ?_ ?_ ?_);(exact fun _ _=>.inl rfl);(exact fun _ _=>.inl rfl))|exact t_choose _|exact t_loadVar _ _|exact t_shape _|((with_reducible refine t_viewAtB ?_ ?_);(exact fun _=>trivial))|(refine t_bnd ?_ ?_)|(intro _)|(refine t_ite ?_ ?_)|split|dsimp only
theorem t_byteOf (a:Addr):TT P W (byteOf a):=by
 unfold byteOf
 repeat' first|exact t_rp _ _|exact trivial|exact t_pure _|exact t_stuck _|exact t_unsupported _|exact t_goPanic _|exact t_program|exact t_typeInfo _|exact t_underlying _|exact t_sizeOf _|exact t_zeroValue _|exact t_isAgg _|exact t_part _ _ _|exact t_askRoom _|exact t_newRow _ _|exact t_newVar _ _|exact t_sureAddr _|exact t_runtimePanic _|exact t_asInt _|exact t_asIntOf _|exact t_asBool _|exact t_asAddr _|((with_reducible refine t_getObjB ?_ ?_ ?_);(exact fun _ _=>.inl rfl);(exact fun _ _=>.inl rfl))|exact t_choose _|exact t_loadVar _ _|exact t_shape _|exact t_noView _|(refine t_bnd ?_ ?_)|(intro _)|(refine t_ite ?_ ?_)|split|dsimp only
theorem t_partAt (a:Addr)(c b:Nat):TT P W (partAt a c b):=by
 unfold partAt
 repeat' first|exact t_rp _ _|exact trivial|exact t_pure _|exact t_stuck _|exact t_unsupported _|exact t_goPanic _|exact t_program|exact t_typeInfo _|exact t_underlying _|exact t_sizeOf _|exact t_zeroValue _|exact t_isAgg _|exact t_part _ _ _|exact t_askRoom _|exact t_newRow _ _|exact t_newVar _ _|exact t_sureAddr _|exact t_runtimePanic _|exact t_asInt _|exact t_asIntOf _|exact t_asBool _|exact t_asAddr _|((with_reducible refine t_getObjB ?_ ?_ ?_);(exact fun _ _=>.inl rfl);(exact fun _ _=>.inl rfl))|exact t_choose _|exact t_loadVar _ _|exact t_shape _|exact t_byteOf _|(refine t_bnd ?_ ?_)|(intro _)|(refine t_ite ?_ ?_)|split|dsimp only
theorem t_fieldPlace (a:Addr)(f:Field):TT P W (fieldPlace a f):=by
 unfold fieldPlace
 repeat' first|exact t_rp _ _|exact trivial|exact t_pure _|exact t_stuck _|exact t_unsupported _|exact t_goPanic _|exact t_program|exact t_typeInfo _|exact t_underlying _|exact t_sizeOf _|exact t_zeroValue _|exact t_isAgg _|exact t_part _ _ _|exact t_askRoom _|exact t_newRow _ _|exact t_newVar _ _|exact t_sureAddr _|exact t_runtimePanic _|exact t_asInt _|exact t_asIntOf _|exact t_asBool _|exact t_asAddr _|((with_reducible refine t_getObjB ?_ ?_ ?_);(exact fun _ _=>.inl rfl);(exact fun _ _=>.inl rfl))|exact t_choose _|exact t_loadVar _ _|exact t_shape _|exact t_partAt _ _ _|(refine t_bnd ?_ ?_)|(intro _)|(refine t_ite ?_ ?_)|split|dsimp only
theorem t_fieldAt (s:TypeId)(v:Value)(i:Nat):TT P W (Instr.fieldAt s v i):=by
 unfold Instr.fieldAt
 repeat' first|exact t_rp _ _|exact trivial|exact t_pure _|exact t_stuck _|exact t_unsupported _|exact t_goPanic _|exact t_program|exact t_typeInfo _|exact t_underlying _|exact t_sizeOf _|exact t_zeroValue _|exact t_isAgg _|exact t_part _ _ _|exact t_askRoom _|exact t_newRow _ _|exact t_newVar _ _|exact t_sureAddr _|exact t_runtimePanic _|exact t_asInt _|exact t_asIntOf _|exact t_asBool _|exact t_asAddr _|((with_reducible refine t_getObjB ?_ ?_ ?_);(exact fun _ _=>.inl rfl);(exact fun _ _=>.inl rfl))|exact t_choose _|exact t_loadVar _ _|exact t_shape _|exact t_fieldPlace _ _|(refine t_bnd ?_ ?_)|(intro _)|(refine t_ite ?_ ?_)|split|dsimp only
theorem t_build (t:TypeId)(ps:Array (Nat × Value)):TT P W (Instr.build t ps):=by
 unfold Instr.build
 repeat' first|exact t_rp _ _|exact trivial|exact t_pure _|exact t_stuck _|exact t_unsupported _|exact t_goPanic _|exact t_program|exact t_typeInfo _|exact t_underlying _|exact t_sizeOf _|exact t_zeroValue _|exact t_isAgg _|exact t_part _ _ _|exact t_askRoom _|exact t_newRow _ _|exact t_newVar _ _|exact t_sureAddr _|exact t_runtimePanic _|exact t_asInt _|exact t_asIntOf _|exact t_asBool _|exact t_asAddr _|((with_reducible refine t_getObjB ?_ ?_ ?_);(exact fun _ _=>.inl rfl);(exact fun _ _=>.inl rfl))|exact t_choose _|exact t_loadVar _ _|exact t_shape _|(refine t_mapM _ ?_ _)|(refine t_bnd ?_ ?_)|(intro _)|(refine t_ite ?_ ?_)|split|dsimp only
theorem t_buildSlice (t:TypeId)(n:Nat)(ps:Array (Nat × Value)):TT P W (Instr.buildSlice t n ps):=by
 unfold Instr.buildSlice
 repeat' first|exact t_rp _ _|exact trivial|exact t_pure _|exact t_stuck _|exact t_unsupported _|exact t_goPanic _|exact t_program|exact t_typeInfo _|exact t_underlying _|exact t_sizeOf _|exact t_zeroValue _|exact t_isAgg _|exact t_part _ _ _|exact t_askRoom _|exact t_newRow _ _|exact t_newVar _ _|exact t_sureAddr _|exact t_runtimePanic _|exact t_asInt _|exact t_asIntOf _|exact t_asBool _|exact t_asAddr _|((with_reducible refine t_getObjB ?_ ?_ ?_);(exact fun _ _=>.inl rfl);(exact fun _ _=>.inl rfl))|exact t_choose _|exact t_loadVar _ _|exact t_shape _|(refine t_bnd ?_ ?_)|(intro _)|(refine t_ite ?_ ?_)|split|dsimp only
theorem t_unsafeAdd (ts:Array TypeId)(t:TypeId)(vs:Array Value):TT P W (Builtin.unsafeAdd_ ts t vs):=by
 unfold Builtin.unsafeAdd_
 rcases vs with ⟨_|⟨x,_|⟨y,_|⟨z,l⟩⟩⟩⟩<;>first|exact t_stuck _|skip
 cases x<;>first|exact t_stuck _|skip
 dsimp only
 repeat' first|exact t_rp _ _|exact trivial|exact t_pure _|exact t_stuck _|exact t_unsupported _|exact t_goPanic _|exact t_program|exact t_typeInfo _|exact t_underlying _|exact t_sizeOf _|exact t_zeroValue _|exact t_isAgg _|exact t_part _ _ _|exact t_askRoom _|exact t_newRow _ _|exact t_newVar _ _|exact t_sureAddr _|exact t_runtimePanic _|exact t_asInt _|exact t_asIntOf _|exact t_asBool _|exact t_asAddr _|((with_reducible refine t_getObjB ?_ ?_ ?_);(exact fun _ _=>.inl rfl);(exact fun _ _=>.inl rfl))|exact t_choose _|exact t_loadVar _ _|exact t_shape _|((with_reducible refine t_viewAtB ?_ ?_);(exact fun _=>trivial))|(refine t_bnd ?_ ?_)|(intro _)|(refine t_ite ?_ ?_)|split|dsimp only
theorem t_asNumber (a:Addr)(b:Bool):TT P W (asNumber a b):=by
 unfold asNumber
 repeat' first|exact t_rp _ _|exact trivial|exact t_pure _|exact t_stuck _|exact t_unsupported _|exact t_goPanic _|exact t_program|exact t_typeInfo _|exact t_underlying _|exact t_sizeOf _|exact t_zeroValue _|exact t_isAgg _|exact t_part _ _ _|exact t_askRoom _|exact t_newRow _ _|exact t_newVar _ _|exact t_sureAddr _|exact t_runtimePanic _|exact t_asInt _|exact t_asIntOf _|exact t_asBool _|exact t_asAddr _|((with_reducible refine t_getObjB ?_ ?_ ?_);(exact fun _ _=>.inl rfl);(exact fun _ _=>.inl rfl))|exact t_choose _|exact t_loadVar _ _|exact t_shape _|exact t_newObj _|(refine t_bnd ?_ ?_)|(intro _)|(refine t_ite ?_ ?_)|split|dsimp only
theorem t_movedNumber (t:TypeId)(x y:Value):TT P W (movedNumber t x y):=by
 unfold movedNumber
 repeat' first|exact t_rp _ _|exact trivial|exact t_pure _|exact t_stuck _|exact t_unsupported _|exact t_goPanic _|exact t_program|exact t_typeInfo _|exact t_underlying _|exact t_sizeOf _|exact t_zeroValue _|exact t_isAgg _|exact t_part _ _ _|exact t_askRoom _|exact t_newRow _ _|exact t_newVar _ _|exact t_sureAddr _|exact t_runtimePanic _|exact t_asInt _|exact t_asIntOf _|exact t_asBool _|exact t_asAddr _|((with_reducible refine t_getObjB ?_ ?_ ?_);(exact fun _ _=>.inl rfl);(exact fun _ _=>.inl rfl))|exact t_choose _|exact t_loadVar _ _|exact t_shape _|exact t_unsafeAdd _ _ _|exact t_behindNumber _|exact t_asNumber _ _|(refine t_bnd ?_ ?_)|(intro _)|(refine t_ite ?_ ?_)|split|dsimp only
theorem t_movedPointer (t:TypeId)(x y:Value):TT P W (movedPointer t x y):=by
 unfold movedPointer
 repeat' first|exact t_rp _ _|exact trivial|exact t_pure _|exact t_stuck _|exact t_unsupported _|exact t_goPanic _|exact t_program|exact t_typeInfo _|exact t_underlying _|exact t_sizeOf _|exact t_zeroValue _|exact t_isAgg _|exact t_part _ _ _|exact t_askRoom _|exact t_newRow _ _|exact t_newVar _ _|exact t_sureAddr _|exact t_runtimePanic _|exact t_asInt _|exact t_asIntOf _|exact t_asBool _|exact t_asAddr _|((with_reducible refine t_getObjB ?_ ?_ ?_);(exact fun _ _=>.inl rfl);(exact fun _ _=>.inl rfl))|exact t_choose _|exact t_loadVar _ _|exact t_shape _|exact t_unsafeAdd _ _ _|exact t_numberAt _|(refine t_bnd ?_ ?_)|(intro _)|(refine t_ite ?_ ?_)|split|dsimp only
theorem t_twoPlaces (a b:Addr):TT P W (Op.twoPlaces a b):=by
 unfold Op.twoPlaces
 repeat' first|exact t_rp _ _|exact trivial|exact t_pure _|exact t_stuck _|exact t_unsupported _|exact t_goPanic _|exact t_program|exact t_typeInfo _|exact t_underlying _|exact t_sizeOf _|exact t_zeroValue _|exact t_isAgg _|exact t_part _ _ _|exact t_askRoom _|exact t_newRow _ _|exact t_newVar _ _|exact t_sureAddr _|exact t_runtimePanic _|exact t_asInt _|exact t_asIntOf _|exact t_asBool _|exact t_asAddr _|((with_reducible refine t_getObjB ?_ ?_ ?_);(exact fun _ _=>.inl rfl);(exact fun _ _=>.inl rfl))|exact t_choose _|exact t_loadVar _ _|exact t_shape _|exact t_byteOf _|(refine t_bnd ?_ ?_)|(intro _)|(refine t_ite ?_ ?_)|split|dsimp only
theorem t_addrSub (k:IntKind)(a b:Addr):TT P W (Op.addrSub k a b):=by
 unfold Op.addrSub
 repeat' first|exact t_rp _ _|exact trivial|exact t_pure _|exact t_stuck _|exact t_unsupported _|exact t_goPanic _|exact t_program|exact t_typeInfo _|exact t_underlying _|exact t_sizeOf _|exact t_zeroValue _|exact t_isAgg _|exact t_part _ _ _|exact t_askRoom _|exact t_newRow _ _|exact t_newVar _ _|exact t_sureAddr _|exact t_runtimePanic _|exact t_asInt _|exact t_asIntOf _|exact t_asBool _|exact t_asAddr _|((with_reducible refine t_getObjB ?_ ?_ ?_);(exact fun _ _=>.inl rfl);(exact fun _ _=>.inl rfl))|exact t_choose _|exact t_loadVar _ _|exact t_shape _|exact t_twoPlaces _ _|(refine t_bnd ?_ ?_)|(intro _)|(refine t_ite ?_ ?_)|split|dsimp only
theorem t_addrCmp (op:BinOp)(a b:Addr):TT P W (Op.addrCmp op a b):=by
 unfold Op.addrCmp
 repeat' first|exact t_rp _ _|exact trivial|exact t_pure _|exact t_stuck _|exact t_unsupported _|exact t_goPanic _|exact t_program|exact t_typeInfo _|exact t_underlying _|exact t_sizeOf _|exact t_zeroValue _|exact t_isAgg _|exact t_part _ _ _|exact t_askRoom _|exact t_newRow _ _|exact t_newVar _ _|exact t_sureAddr _|exact t_runtimePanic _|exact t_asInt _|exact t_asIntOf _|exact t_asBool _|exact t_asAddr _|((with_reducible refine t_getObjB ?_ ?_ ?_);(exact fun _ _=>.inl rfl);(exact fun _ _=>.inl rfl))|exact t_choose _|exact t_loadVar _ _|exact t_shape _|exact t_twoPlaces _ _|(refine t_bnd ?_ ?_)|(intro _)|(refine t_ite ?_ ?_)|split|dsimp only
theorem t_addrMod (k:IntKind)(a:Addr)(n:Int):TT P W (Op.addrMod k a n):=by
 unfold Op.addrMod
 repeat' first|exact t_rp _ _|exact trivial|exact t_pure _|exact t_stuck _|exact t_unsupported _|exact t_goPanic _|exact t_program|exact t_typeInfo _|exact t_underlying _|exact t_sizeOf _|exact t_zeroValue _|exact t_isAgg _|exact t_part _ _ _|exact t_askRoom _|exact t_newRow _ _|exact t_newVar _ _|exact t_sureAddr _|exact t_runtimePanic _|exact t_asInt _|exact t_asIntOf _|exact t_asBool _|exact t_asAddr _|((with_reducible refine t_getObjB ?_ ?_ ?_);(exact fun _ _=>.inl rfl);(exact fun _ _=>.inl rfl))|exact t_choose _|exact t_loadVar _ _|exact t_shape _|exact t_byteOf _|(refine t_bnd ?_ ?_)|(intro _)|(refine t_ite ?_ ?_)|split|dsimp only
theorem t_intArith (op:BinOp)(k:IntKind)(x y:Int):TT P W (Op.intArith op k x y):=by
 unfold Op.intArith
 repeat' first|exact t_rp _ _|exact trivial|exact t_pure _|exact t_stuck _|exact t_unsupported _|exact t_goPanic _|exact t_program|exact t_typeInfo _|exact t_underlying _|exact t_sizeOf _|exact t_zeroValue _|exact t_isAgg _|exact t_part _ _ _|exact t_askRoom _|exact t_newRow _ _|exact t_newVar _ _|exact t_sureAddr _|exact t_runtimePanic _|exact t_asInt _|exact t_asIntOf _|exact t_asBool _|exact t_asAddr _|((with_reducible refine t_getObjB ?_ ?_ ?_);(exact fun _ _=>.inl rfl);(exact fun _ _=>.inl rfl))|exact t_choose _|exact t_loadVar _ _|exact t_shape _|(refine t_bnd ?_ ?_)|(intro _)|(refine t_ite ?_ ?_)|split|dsimp only
theorem t_intDiv (op:BinOp)(k:IntKind)(x y:Int):TT P W (Op.intDiv op k x y):=by
 unfold Op.intDiv
 repeat' first|exact t_rp _ _|exact trivial|exact t_pure _|exact t_stuck _|exact t_unsupported _|exact t_goPanic _|exact t_program|exact t_typeInfo _|exact t_underlying _|exact t_sizeOf _|exact t_zeroValue _|exact t_isAgg _|exact t_part _ _ _|exact t_askRoom _|exact t_newRow _ _|exact t_newVar _ _|exact t_sureAddr _|exact t_runtimePanic _|exact t_asInt _|exact t_asIntOf _|exact t_asBool _|exact t_asAddr _|((with_reducible refine t_getObjB ?_ ?_ ?_);(exact fun _ _=>.inl rfl);(exact fun _ _=>.inl rfl))|exact t_choose _|exact t_loadVar _ _|exact t_shape _|(refine t_bnd ?_ ?_)|(intro _)|(refine t_ite ?_ ?_)|split|dsimp only
theorem t_intBits (op:BinOp)(k:IntKind)(x y:Int):TT P W (Op.intBits op k x y):=by
 unfold Op.intBits
 repeat' first|exact t_rp _ _|exact trivial|exact t_pure _|exact t_stuck _|exact t_unsupported _|exact t_goPanic _|exact t_program|exact t_typeInfo _|exact t_underlying _|exact t_sizeOf _|exact t_zeroValue _|exact t_isAgg _|exact t_part _ _ _|exact t_askRoom _|exact t_newRow _ _|exact t_newVar _ _|exact t_sureAddr _|exact t_runtimePanic _|exact t_asInt _|exact t_asIntOf _|exact t_asBool _|exact t_asAddr _|((with_reducible refine t_getObjB ?_ ?_ ?_);(exact fun _ _=>.inl rfl);(exact fun _ _=>.inl rfl))|exact t_choose _|exact t_loadVar _ _|exact t_shape _|(refine t_bnd ?_ ?_)|(intro _)|(refine t_ite ?_ ?_)|split|dsimp only
theorem t_intCmp (op:BinOp)(x y:Int):TT P W (Op.intCmp op x y):=by
 unfold Op.intCmp
 repeat' first|exact t_rp _ _|exact trivial|exact t_pure _|exact t_stuck _|exact t_unsupported _|exact t_goPanic _|exact t_program|exact t_typeInfo _|exact t_underlying _|exact t_sizeOf _|exact t_zeroValue _|exact t_isAgg _|exact t_part _ _ _|exact t_askRoom _|exact t_newRow _ _|exact t_newVar _ _|exact t_sureAddr _|exact t_runtimePanic _|exact t_asInt _|exact t_asIntOf _|exact t_asBool _|exact t_asAddr _|((with_reducible refine t_getObjB ?_ ?_ ?_);(exact fun _ _=>.inl rfl);(exact fun _ _=>.inl rfl))|exact t_choose _|exact t_loadVar _ _|exact t_shape _|(refine t_bnd ?_ ?_)|(intro _)|(refine t_ite ?_ ?_)|split|dsimp only
theorem t_shift (op:BinOp)(k:IntKind)(x:Int)(k':IntKind)(y:Int):TT P W (Op.shift op k x k' y):=by
 unfold Op.shift
 repeat' first|exact t_rp _ _|exact trivial|exact t_pure _|exact t_stuck _|exact t_unsupported _|exact t_goPanic _|exact t_program|exact t_typeInfo _|exact t_underlying _|exact t_sizeOf _|exact t_zeroValue _|exact t_isAgg _|exact t_part _ _ _|exact t_askRoom _|exact t_newRow _ _|exact t_newVar _ _|exact t_sureAddr _|exact t_runtimePanic _|exact t_asInt _|exact t_asIntOf _|exact t_asBool _|exact t_asAddr _|((with_reducible refine t_getObjB ?_ ?_ ?_);(exact fun _ _=>.inl rfl);(exact fun _ _=>.inl rfl))|exact t_choose _|exact t_loadVar _ _|exact t_shape _|(refine t_bnd ?_ ?_)|(intro _)|(refine t_ite ?_ ?_)|split|dsimp only
theorem t_floatArith (op:BinOp)(k:FloatKind)(x y:Nat):TT P W (Op.floatArith op k x y):=by
 unfold Op.floatArith
 repeat' first|exact t_rp _ _|exact trivial|exact t_pure _|exact t_stuck _|exact t_unsupported _|exact t_goPanic _|exact t_program|exact t_typeInfo _|exact t_underlying _|exact t_sizeOf _|exact t_zeroValue _|exact t_isAgg _|exact t_part _ _ _|exact t_askRoom _|exact t_newRow _ _|exact t_newVar _ _|exact t_sureAddr _|exact t_runtimePanic _|exact t_asInt _|exact t_asIntOf _|exact t_asBool _|exact t_asAddr _|((with_reducible refine t_getObjB ?_ ?_ ?_);(exact fun _ _=>.inl rfl);(exact fun _ _=>.inl rfl))|exact t_choose _|exact t_loadVar _ _|exact t_shape _|(refine t_bnd ?_ ?_)|(intro _)|(refine t_ite ?_ ?_)|split|dsimp only
theorem t_floatCmp (op:BinOp)(k:FloatKind)(x y:Nat):TT P W (Op.floatCmp op k x y):=by
 unfold Op.floatCmp
 repeat' first|exact t_rp _ _|exact trivial|exact t_pure _|exact t_stuck _|exact t_unsupported _|exact t_goPanic _|exact t_program|exact t_typeInfo _|exact t_underlying _|exact t_sizeOf _|exact t_zeroValue _|exact t_isAgg _|exact t_part _ _ _|exact t_askRoom _|exact t_newRow _ _|exact t_newVar _ _|exact t_sureAddr _|exact t_runtimePanic _|exact t_asInt _|exact t_asIntOf _|exact t_asBool _|exact t_asAddr _|((with_reducible refine t_getObjB ?_ ?_ ?_);(exact fun _ _=>.inl rfl);(exact fun _ _=>.inl rfl))|exact t_choose _|exact t_loadVar _ _|exact t_shape _|(refine t_bnd ?_ ?_)|(intro _)|(refine t_ite ?_ ?_)|split|dsimp only
theorem t_stringOp (op:BinOp)(x y:ByteArray):TT P W (Op.stringOp op x y):=by
 unfold Op.stringOp
 repeat' first|exact t_rp _ _|exact trivial|exact t_pure _|exact t_stuck _|exact t_unsupported _|exact t_goPanic _|exact t_program|exact t_typeInfo _|exact t_underlying _|exact t_sizeOf _|exact t_zeroValue _|exact t_isAgg _|exact t_part _ _ _|exact t_askRoom _|exact t_newRow _ _|exact t_newVar _ _|exact t_sureAddr _|exact t_runtimePanic _|exact t_asInt _|exact t_asIntOf _|exact t_asBool _|exact t_asAddr _|((with_reducible refine t_getObjB ?_ ?_ ?_);(exact fun _ _=>.inl rfl);(exact fun _ _=>.inl rfl))|exact t_choose _|exact t_loadVar _ _|exact t_shape _|(refine t_bnd ?_ ?_)|(intro _)|(refine t_ite ?_ ?_)|split|dsimp only
theorem t_makeChan (t:TypeId)(x:Value):TT P W (Instr.makeChan t x):=by
 unfold Instr.makeChan
 repeat' first|exact t_rp _ _|exact trivial|exact t_pure _|exact t_stuck _|exact t_unsupported _|exact t_goPanic _|exact t_program|exact t_typeInfo _|exact t_underlying _|exact t_sizeOf _|exact t_zeroValue _|exact t_isAgg _|exact t_part _ _ _|exact t_askRoom _|exact t_newRow _ _|exact t_newVar _ _|exact t_sureAddr _|exact t_runtimePanic _|exact t_asInt _|exact t_asIntOf _|exact t_asBool _|exact t_asAddr _|((with_reducible refine t_getObjB ?_ ?_ ?_);(exact fun _ _=>.inl rfl);(exact fun _ _=>.inl rfl))|exact t_choose _|exact t_loadVar _ _|exact t_shape _|exact t_newObj _|(refine t_bnd ?_ ?_)|(intro _)|(refine t_ite ?_ ?_)|split|dsimp only
theorem t_unary (op:UnOp)(x:Value):TT P W (Op.unary op x):=by
 unfold Op.unary
 repeat' first|exact t_rp _ _|exact trivial|exact t_pure _|exact t_stuck _|exact t_unsupported _|exact t_goPanic _|exact t_program|exact t_typeInfo _|exact t_underlying _|exact t_sizeOf _|exact t_zeroValue _|exact t_isAgg _|exact t_part _ _ _|exact t_askRoom _|exact t_newRow _ _|exact t_newVar _ _|exact t_sureAddr _|exact t_runtimePanic _|exact t_asInt _|exact t_asIntOf _|exact t_asBool _|exact t_asAddr _|((with_reducible refine t_getObjB ?_ ?_ ?_);(exact fun _ _=>.inl rfl);(exact fun _ _=>.inl rfl))|exact t_choose _|exact t_loadVar _ _|exact t_shape _|exact t_intArith _ _ _ _|exact t_intBits _ _ _ _|(refine t_bnd ?_ ?_)|(intro _)|(refine t_ite ?_ ?_)|split|dsimp only
variable {P:Program} {W:Prop}
theorem t_append (hW:W)(ts:Array TypeId)(t:TypeId)(vs:Array Value):TT P W (Builtin.append_ ts t vs):=by
 unfold Builtin.append_
 repeat' first|exact t_rp _ _|exact t_pure _|exact t_stuck _|exact t_unsupported _|exact t_goPanic _|exact t_typeInfo _|exact t_underlying _|exact t_sizeOf _|exact t_zeroValue _|exact t_askRoom _|exact t_newRow _ _|exact t_asInt _|exact t_runtimePanic _|exact t_choose _|exact t_storeCells hW _ _ _|exact t_loadCells _ _|exact t_lenOf _|exact t_firstCells _ _ _|(refine t_of_doomed (doomed_after (mild_mayShare _ _ _ _ _) fun b=>?_);cases b<;>first|exact trivial|exact ⟨by simp,by simp,trivial⟩)|(refine t_bnd ?_ ?_)|(intro _)|(refine t_ite ?_ ?_)|split|dsimp only
variable {P:Program} {W:Prop}
theorem t_listForIn' {α β:Type}(f:α→β→Sem (ForInStep β)):∀ (l:List α),(∀ a∈l,∀ b,TT P W (f a b))→∀ (b:β),TT P W (forIn l b f)
 | [],_,b=>by simp only [List.forIn_nil];exact trivial
 | a::l,h,b=>by
  simp only [List.forIn_cons]
  refine t_bnd (h a (List.mem_cons_self ..) b) fun s=>?_
  cases s with
  | done b=>exact trivial
  | yield b=>exact t_listForIn' f l (fun x hx=>h x (List.mem_cons_of_mem _ hx)) b
theorem t_arrayForIn' {α β:Type}(f:α→β→Sem (ForInStep β))(xs:Array α)(h:∀ a∈xs,∀ b,TT P W (f a b))(b:β):TT P W (forIn xs b f):=by
 rw [← Array.forIn_toList]
 exact t_listForIn' f _ (fun a ha=>h a (Array.mem_toList_iff.1 ha)) _
theorem t_und {β:Type}{Φ:β→Prop}{t:TypeId}{f:TypeDesc→Sem β}(h:∀ d,P.underlying t=some d→Tame P W Φ (f d)):Tame P W Φ (underlying t >>= f):=by
 show Tame P W Φ (((match P.underlying t with|some d=>pure d|none=>stuck "no such type"):Sem TypeDesc) >>= f)
 cases e:P.underlying t with
 | none=>exact t_stuck (Φ:=Φ) _
 | some d=>exact h d e
theorem t_info {β:Type}{Φ:β→Prop}{t:TypeId}{f:TypeInfo→Sem β}(h:∀ d,P.info? t=some d→Tame P W Φ (f d)):Tame P W Φ (typeInfo t >>= f):=by
 show Tame P W Φ (((match P.info? t with|some d=>pure d|none=>stuck "no such type"):Sem TypeInfo) >>= f)
 cases e:P.info? t with
 | none=>exact t_stuck (Φ:=Φ) _
 | some d=>exact h d e
def eqPlain (P:Program):Nat→TypeId→Bool
 | 0,_=>false
 | n+1,t=>match P.underlying t with
  | some .bool|some (.int _)|some (.float _)|some .string=>true
  | some (.struct fs)=>fs.all fun f=>eqPlain P n f.type
  | some (.array _ e)=>eqPlain P n e
  | _=>false
theorem t_eqGuardIn:∀ (d:Nat) (t:TypeId) (x y:Value),TT P W (Op.eqGuardIn d t x y)
 | 0,_,_,_=>t_unsupported _
 | d+1,t,x,y=>by
  unfold Op.eqGuardIn
  repeat' first|exact t_rp _ _|exact trivial|exact t_pure _|exact t_stuck _|exact t_unsupported _|exact t_goPanic _|exact t_program|exact t_typeInfo _|exact t_underlying _|exact t_sizeOf _|exact t_zeroValue _|exact t_isAgg _|exact t_part _ _ _|exact t_askRoom _|exact t_newRow _ _|exact t_newVar _ _|exact t_sureAddr _|exact t_runtimePanic _|exact t_asInt _|exact t_asIntOf _|exact t_asBool _|exact t_asAddr _|((with_reducible refine t_getObjB ?_ ?_ ?_);(exact fun _ _=>.inl rfl);(exact fun _ _=>.inl rfl))|exact t_choose _|exact t_loadVar _ _|exact t_shape _|exact t_eqGuardIn d _ _ _|(refine t_arrayForIn _ ?_ _ _)|(refine t_rangeForIn _ ?_ _ _)|(refine t_bnd ?_ ?_)|(intro _)|(refine t_ite ?_ ?_)|split|dsimp only
theorem t_eqGuard (op:BinOp)(t:TypeId)(x y:Operand)(a b:Value):TT P W (eqGuard op t x y a b):=by
 unfold eqGuard
 repeat' first|exact t_rp _ _|exact trivial|exact t_pure _|exact t_stuck _|exact t_unsupported _|exact t_goPanic _|exact t_program|exact t_typeInfo _|exact t_underlying _|exact t_sizeOf _|exact t_zeroValue _|exact t_isAgg _|exact t_part _ _ _|exact t_askRoom _|exact t_newRow _ _|exact t_newVar _ _|exact t_sureAddr _|exact t_runtimePanic _|exact t_asInt _|exact t_asIntOf _|exact t_asBool _|exact t_asAddr _|((with_reducible refine t_getObjB ?_ ?_ ?_);(exact fun _ _=>.inl rfl);(exact fun _ _=>.inl rfl))|exact t_choose _|exact t_loadVar _ _|exact t_shape _|exact t_eqGuardIn _ _ _ _|(refine t_bnd ?_ ?_)|(intro _)|(refine t_ite ?_ ?_)|split|dsimp only
theorem t_equalIn:∀ (n:Nat) (t:TypeId),eqPlain P n t=true→∀ (d:Nat) (x y:Value),TT P W (Op.equalIn d t x y)
 | 0,_,h=>by cases h
 | n+1,t,h=>by
  intro d x y
  cases d with
  | zero=>exact t_unsupported _
  | succ d =>
   unfold Op.equalIn
   refine t_und fun u hu=>?_
   unfold eqPlain at h
   rw [hu] at h
   cases u with
   | bool =>
    repeat' first|contradiction|exact t_rp _ _|exact trivial|exact t_pure _|exact t_stuck _|exact t_unsupported _|exact t_goPanic _|exact t_program|exact t_typeInfo _|exact t_underlying _|exact t_sizeOf _|exact t_zeroValue _|exact t_isAgg _|exact t_part _ _ _|exact t_askRoom _|exact t_newRow _ _|exact t_newVar _ _|exact t_sureAddr _|exact t_runtimePanic _|exact t_asInt _|exact t_asIntOf _|exact t_asBool _|exact t_asAddr _|((with_reducible refine t_getObjB ?_ ?_ ?_);(exact fun _ _=>.inl rfl);(exact fun _ _=>.inl rfl))|exact t_choose _|exact t_loadVar _ _|exact t_shape _|(refine t_bnd ?_ ?_)|(intro _)|(refine t_ite ?_ ?_)|split|dsimp only
   | int k =>
    repeat' first|contradiction|exact t_rp _ _|exact trivial|exact t_pure _|exact t_stuck _|exact t_unsupported _|exact t_goPanic _|exact t_program|exact t_typeInfo _|exact t_underlying _|exact t_sizeOf _|exact t_zeroValue _|exact t_isAgg _|exact t_part _ _ _|exact t_askRoom _|exact t_newRow _ _|exact t_newVar _ _|exact t_sureAddr _|exact t_runtimePanic _|exact t_asInt _|exact t_asIntOf _|exact t_asBool _|exact t_asAddr _|((with_reducible refine t_getObjB ?_ ?_ ?_);(exact fun _ _=>.inl rfl);(exact fun _ _=>.inl rfl))|exact t_choose _|exact t_loadVar _ _|exact t_shape _|exact t_behindNumber _|exact t_byteOf _|(refine t_bnd ?_ ?_)|(intro _)|(refine t_ite ?_ ?_)|split|dsimp only
   | float k =>
    repeat' first|contradiction|exact t_rp _ _|exact trivial|exact t_pure _|exact t_stuck _|exact t_unsupported _|exact t_goPanic _|exact t_program|exact t_typeInfo _|exact t_underlying _|exact t_sizeOf _|exact t_zeroValue _|exact t_isAgg _|exact t_part _ _ _|exact t_askRoom _|exact t_newRow _ _|exact t_newVar _ _|exact t_sureAddr _|exact t_runtimePanic _|exact t_asInt _|exact t_asIntOf _|exact t_asBool _|exact t_asAddr _|((with_reducible refine t_getObjB ?_ ?_ ?_);(exact fun _ _=>.inl rfl);(exact fun _ _=>.inl rfl))|exact t_choose _|exact t_loadVar _ _|exact t_shape _|(refine t_bnd ?_ ?_)|(intro _)|(refine t_ite ?_ ?_)|split|dsimp only
   | string =>
    repeat' first|contradiction|exact t_rp _ _|exact trivial|exact t_pure _|exact t_stuck _|exact t_unsupported _|exact t_goPanic _|exact t_program|exact t_typeInfo _|exact t_underlying _|exact t_sizeOf _|exact t_zeroValue _|exact t_isAgg _|exact t_part _ _ _|exact t_askRoom _|exact t_newRow _ _|exact t_newVar _ _|exact t_sureAddr _|exact t_runtimePanic _|exact t_asInt _|exact t_asIntOf _|exact t_asBool _|exact t_asAddr _|((with_reducible refine t_getObjB ?_ ?_ ?_);(exact fun _ _=>.inl rfl);(exact fun _ _=>.inl rfl))|exact t_choose _|exact t_loadVar _ _|exact t_shape _|(refine t_bnd ?_ ?_)|(intro _)|(refine t_ite ?_ ?_)|split|dsimp only
   | struct fs =>
    have ih:∀ fs',TypeDesc.struct fs=TypeDesc.struct fs'→∀ f:Field,f∈fs'→∀ x y,TT P W (Op.equalIn d f.type x y):=fun fs' e f hf x y=>by cases e;exact t_equalIn n f.type (by simp only [Array.all_eq_true_iff_forall_mem] at h;exact h f hf) d x y
    repeat' first|contradiction|exact t_rp _ _|exact trivial|exact t_pure _|exact t_stuck _|exact t_unsupported _|exact t_goPanic _|exact t_program|exact t_typeInfo _|exact t_underlying _|exact t_sizeOf _|exact t_zeroValue _|exact t_isAgg _|exact t_part _ _ _|exact t_askRoom _|exact t_newRow _ _|exact t_newVar _ _|exact t_sureAddr _|exact t_runtimePanic _|exact t_asInt _|exact t_asIntOf _|exact t_asBool _|exact t_asAddr _|((with_reducible refine t_getObjB ?_ ?_ ?_);(exact fun _ _=>.inl rfl);(exact fun _ _=>.inl rfl))|exact t_choose _|exact t_loadVar _ _|exact t_shape _|exact ih _ (by assumption) _ (by assumption) _ _|(refine t_arrayForIn' _ _ ?_ _)|(refine t_bnd ?_ ?_)|(intro _)|(refine t_ite ?_ ?_)|split|dsimp only
   | array len e =>
    have ih:∀ l' e',TypeDesc.array len e=TypeDesc.array l' e'→∀ x y,TT P W (Op.equalIn d e' x y):=fun l' e' ee x y=>by cases ee;exact t_equalIn n e h d x y
    repeat' first|contradiction|exact t_rp _ _|exact trivial|exact t_pure _|exact t_stuck _|exact t_unsupported _|exact t_goPanic _|exact t_program|exact t_typeInfo _|exact t_underlying _|exact t_sizeOf _|exact t_zeroValue _|exact t_isAgg _|exact t_part _ _ _|exact t_askRoom _|exact t_newRow _ _|exact t_newVar _ _|exact t_sureAddr _|exact t_runtimePanic _|exact t_asInt _|exact t_asIntOf _|exact t_asBool _|exact t_asAddr _|((with_reducible refine t_getObjB ?_ ?_ ?_);(exact fun _ _=>.inl rfl);(exact fun _ _=>.inl rfl))|exact t_choose _|exact t_loadVar _ _|exact t_shape _|exact ih _ _ (by assumption) _ _|(refine t_rangeForIn _ ?_ _ _)|(refine t_bnd ?_ ?_)|(intro _)|(refine t_ite ?_ ?_)|split|dsimp only
   | _=>cases h
theorem t_equalNil (d:Nat)(t e:TypeId)(h:P.underlying t=some (.pointer e))(x:Value):TT P W (Op.equalIn d t x (.pointer none)):=by
 cases d with
 | zero=>exact t_unsupported _
 | succ d =>
  unfold Op.equalIn
  refine t_und fun u hu=>?_
  rw [h] at hu
  obtain rfl:=Option.some.inj hu
  cases x with
  | pointer a=>cases a<;>exact trivial
  | _=>exact t_stuck _
theorem t_carith (op:BinOp)(k:FloatKind)(a b:Nat):TT P W (Op.Complex.arith op k a b):=by
 unfold Op.Complex.arith
 repeat' first|(with_reducible first|exact t_rp _ _|exact t_pure _|exact t_stuck _|exact t_unsupported _|exact t_goPanic _|exact t_program|exact t_typeInfo _|exact t_underlying _|exact t_sizeOf _|exact t_runtimePanic _|exact t_asInt _|exact t_asIntOf _|exact t_asBool _|exact t_asAddr _|((with_reducible refine t_getObjB ?_ ?_ ?_);(exact fun _ _=>.inl rfl);(exact fun _ _=>.inl rfl))|exact t_choose _|exact t_loadVar _ _|exact t_shape _|exact t_floatArith _ _ _ _)|exact t_unsupported _|(refine t_bnd ?_ ?_)|(intro _)|(refine t_ite ?_ ?_)|split|dsimp only
theorem t_ccmp (op:BinOp)(k:FloatKind)(a b:Nat):TT P W (Op.Complex.cmp op k a b):=by
 unfold Op.Complex.cmp
 repeat' first|(with_reducible first|exact t_rp _ _|exact t_pure _|exact t_stuck _|exact t_unsupported _|exact t_goPanic _|exact t_program|exact t_typeInfo _|exact t_underlying _|exact t_sizeOf _|exact t_runtimePanic _|exact t_asInt _|exact t_asIntOf _|exact t_asBool _|exact t_asAddr _|((with_reducible refine t_getObjB ?_ ?_ ?_);(exact fun _ _=>.inl rfl);(exact fun _ _=>.inl rfl))|exact t_choose _|exact t_loadVar _ _|exact t_shape _|exact t_floatCmp _ _ _ _)|exact t_unsupported _|(refine t_bnd ?_ ?_)|(intro _)|(refine t_ite ?_ ?_)|split|dsimp only
theorem t_floatToFloat (k:FloatKind)(a:Nat)(k':FloatKind):TT P W (Conv.floatToFloat k a k'):=by
 unfold Conv.floatToFloat
 repeat' first|(with_reducible first|exact t_rp _ _|exact t_pure _|exact t_stuck _|exact t_unsupported _|exact t_goPanic _|exact t_program|exact t_typeInfo _|exact t_underlying _|exact t_sizeOf _|exact t_runtimePanic _|exact t_asInt _|exact t_asIntOf _|exact t_asBool _|exact t_asAddr _|((with_reducible refine t_getObjB ?_ ?_ ?_);(exact fun _ _=>.inl rfl);(exact fun _ _=>.inl rfl))|exact t_choose _|exact t_loadVar _ _|exact t_shape _)|exact t_unsupported _|(refine t_bnd ?_ ?_)|(intro _)|(refine t_ite ?_ ?_)|split|dsimp only
theorem t_cconv (k:FloatKind)(a:Nat)(k':FloatKind):TT P W (Op.Complex.conv k a k'):=by
 unfold Op.Complex.conv
 repeat' first|(with_reducible first|exact t_rp _ _|exact t_pure _|exact t_stuck _|exact t_unsupported _|exact t_goPanic _|exact t_program|exact t_typeInfo _|exact t_underlying _|exact t_sizeOf _|exact t_runtimePanic _|exact t_asInt _|exact t_asIntOf _|exact t_asBool _|exact t_asAddr _|((with_reducible refine t_getObjB ?_ ?_ ?_);(exact fun _ _=>.inl rfl);(exact fun _ _=>.inl rfl))|exact t_choose _|exact t_loadVar _ _|exact t_shape _|exact t_floatToFloat _ _ _)|exact t_unsupported _|(refine t_bnd ?_ ?_)|(intro _)|(refine t_ite ?_ ?_)|split|dsimp only
theorem t_cadd (a b:Nat):TT P W (Op.Complex.add a b):=t_carith _ _ _ _
theorem t_csub (a b:Nat):TT P W (Op.Complex.sub a b):=t_carith _ _ _ _
theorem t_cmul (a b:Nat):TT P W (Op.Complex.mul a b):=t_carith _ _ _ _
theorem t_cquo (a b:Nat):TT P W (Op.Complex.quo a b):=t_carith _ _ _ _
theorem t_cproduct (a b c d:Nat):TT P W (Op.Complex.product a b c d):=by
 unfold Op.Complex.product
 repeat' first|(with_reducible first|exact t_rp _ _|exact t_pure _|exact t_stuck _|exact t_unsupported _|exact t_goPanic _|exact t_program|exact t_typeInfo _|exact t_underlying _|exact t_sizeOf _|exact t_runtimePanic _|exact t_asInt _|exact t_asIntOf _|exact t_asBool _|exact t_asAddr _|((with_reducible refine t_getObjB ?_ ?_ ?_);(exact fun _ _=>.inl rfl);(exact fun _ _=>.inl rfl))|exact t_choose _|exact t_loadVar _ _|exact t_shape _|exact t_cadd _ _|exact t_csub _ _|exact t_cmul _ _|exact t_cquo _ _)|exact t_unsupported _|(refine t_bnd ?_ ?_)|(intro _)|(refine t_ite ?_ ?_)|split|dsimp only
theorem t_ccorrected (s a b c d:Nat):TT P W (Op.Complex.corrected s a b c d):=by
 unfold Op.Complex.corrected
 repeat' first|(with_reducible first|exact t_rp _ _|exact t_pure _|exact t_stuck _|exact t_unsupported _|exact t_goPanic _|exact t_program|exact t_typeInfo _|exact t_underlying _|exact t_sizeOf _|exact t_runtimePanic _|exact t_asInt _|exact t_asIntOf _|exact t_asBool _|exact t_asAddr _|((with_reducible refine t_getObjB ?_ ?_ ?_);(exact fun _ _=>.inl rfl);(exact fun _ _=>.inl rfl))|exact t_choose _|exact t_loadVar _ _|exact t_shape _|exact t_cadd _ _|exact t_csub _ _|exact t_cmul _ _|exact t_cquo _ _)|exact t_unsupported _|(refine t_bnd ?_ ?_)|(intro _)|(refine t_ite ?_ ?_)|split|dsimp only
theorem t_cquotient (a b c d:Nat):TT P W (Op.Complex.quotient a b c d):=by
 unfold Op.Complex.quotient
 repeat' first|(with_reducible first|exact t_rp _ _|exact t_pure _|exact t_stuck _|exact t_unsupported _|exact t_goPanic _|exact t_program|exact t_typeInfo _|exact t_underlying _|exact t_sizeOf _|exact t_runtimePanic _|exact t_asInt _|exact t_asIntOf _|exact t_asBool _|exact t_asAddr _|((with_reducible refine t_getObjB ?_ ?_ ?_);(exact fun _ _=>.inl rfl);(exact fun _ _=>.inl rfl))|exact t_choose _|exact t_loadVar _ _|exact t_shape _|exact t_cadd _ _|exact t_csub _ _|exact t_cmul _ _|exact t_cquo _ _|exact t_ccmp _ _ _ _|exact t_ccorrected _ _ _ _ _)|exact t_unsupported _|(refine t_bnd ?_ ?_)|(intro _)|(refine t_ite ?_ ?_)|split|dsimp only
theorem t_complexOp (op:BinOp)(k:FloatKind)(a b c d:Nat):TT P W (Op.complexOp op k a b c d):=by
 unfold Op.complexOp
 repeat' first|(with_reducible first|exact t_rp _ _|exact t_pure _|exact t_stuck _|exact t_unsupported _|exact t_goPanic _|exact t_program|exact t_typeInfo _|exact t_underlying _|exact t_sizeOf _|exact t_runtimePanic _|exact t_asInt _|exact t_asIntOf _|exact t_asBool _|exact t_asAddr _|((with_reducible refine t_getObjB ?_ ?_ ?_);(exact fun _ _=>.inl rfl);(exact fun _ _=>.inl rfl))|exact t_choose _|exact t_loadVar _ _|exact t_shape _|exact t_carith _ _ _ _|exact t_ccmp _ _ _ _|exact t_cconv _ _ _|exact t_cproduct _ _ _ _|exact t_cquotient _ _ _ _)|exact t_unsupported _|(refine t_bnd ?_ ?_)|(intro _)|(refine t_ite ?_ ?_)|split|dsimp only
theorem t_binOp (op:BinOp)(t:TypeId)(x y:Value)(h:∀ x,op=.eql∨op=.neq→TT P W (Op.equalIn Op.maxDepth t x y)):TT P W (binOp op t x y):=by
 have h1:∀ x,op=.eql→TT P W (Op.equal t x y):=fun x e=>h x (.inl e)
 have h2:∀ x,op=.neq→TT P W (Op.equal t x y):=fun x e=>h x (.inr e)
 unfold binOp
 repeat' first|(with_reducible first|exact t_rp _ _|exact t_pure _|exact t_stuck _|exact t_unsupported _|exact t_goPanic _|exact t_program|exact t_typeInfo _|exact t_underlying _|exact t_sizeOf _|exact t_runtimePanic _|exact t_asInt _|exact t_asIntOf _|exact t_asBool _|exact t_asAddr _|((with_reducible refine t_getObjB ?_ ?_ ?_);(exact fun _ _=>.inl rfl);(exact fun _ _=>.inl rfl))|exact t_choose _|exact t_loadVar _ _|exact t_shape _|exact t_shift _ _ _ _ _|exact t_intArith _ _ _ _|exact t_intDiv _ _ _ _|exact t_intBits _ _ _ _|exact t_intCmp _ _ _|exact t_floatArith _ _ _ _|exact t_floatCmp _ _ _ _|exact t_complexOp _ _ _ _ _ _|exact t_stringOp _ _ _|exact h1 _ rfl|exact h2 _ rfl|exact t_movedNumber _ _ _|exact t_movedPointer _ _ _|exact t_behindNumber _|exact t_addrSub _ _ _|exact t_addrCmp _ _ _|exact t_addrMod _ _ _)|exact t_unsupported _|(refine t_bnd ?_ ?_)|(intro _)|(refine t_ite ?_ ?_)|split|dsimp only
end Go.Proofs.YtcgabodkegcpgaaDoor.Br
