/- The bridge: every operation that the program uses where it does not meet others is tame. No statement of the program is proved here. -/
import Derived.Test.YtcgabodkegcpgaaDoorTam
import Derived.Laws.Sem
namespace Go.Proofs.YtcgabodkegcpgaaDoor.Br
set_option maxHeartbeats 20000000
variable {P:Program} {W:Prop}
set_option linter.unusedSimpArgs false
theorem t_shape (r:Nat):TT P W (shape r):=fun _=>trivial
theorem t_newObj (o:Go.Obj)(h:Obj.sight o:=by trivial):TT P W (newObj o):=⟨h,fun _=>trivial⟩
theorem t_listMapM {α β:Type}(f:α→Sem β)(h:∀ a,TT P W (f a)):∀ l:List α,TT P W (l.mapM f)
 | []=>by simp only [List.mapM_nil];exact trivial
 | a::l=>by
  simp only [List.mapM_cons]
  exact t_bnd (h a) fun _=>t_bnd (t_listMapM f h l) fun _=>trivial
theorem t_mapM {α β:Type}(f:α→Sem β)(h:∀ a,TT P W (f a))(xs:Array α):TT P W (xs.mapM f):=by
 rw [Array.mapM_eq_mapM_toList]
 exact t_map _ (t_listMapM f h _)
theorem t_listForIn {α β:Type}(f:α→β→Sem (ForInStep β))(h:∀ a b,TT P W (f a b)):∀ (l:List α) (b:β),TT P W (forIn l b f)
 | [],b=>by simp only [List.forIn_nil];exact trivial
 | a::l,b=>by
  simp only [List.forIn_cons]
  refine t_bnd (h a b) fun s=>?_
  cases s with
  | done b=>exact trivial
  | yield b=>exact t_listForIn f h l b
theorem t_arrayForIn {α β:Type}(f:α→β→Sem (ForInStep β))(h:∀ a b,TT P W (f a b))(xs:Array α)(b:β):TT P W (forIn xs b f):=by
 rw [← Array.forIn_toList]
 exact t_listForIn f h _ _
theorem t_rangeForIn {β:Type}(f:Nat→β→Sem (ForInStep β))(h:∀ a b,TT P W (f a b))(r:Std.Legacy.Range)(b:β):TT P W (forIn r b f):=by
 rw [Std.Legacy.Range.forIn_eq_forIn_range']
 exact t_listForIn f h _ _
theorem t_len (ts:Array TypeId)(t:TypeId)(vs:Array Value):TT P W (Builtin.len_ ts t vs):=by
 unfold Builtin.len_
 repeat' first|exact t_rp _ _|exact trivial|exact t_pure _|exact t_stuck _|exact t_unsupported _|exact t_goPanic _|exact t_program|exact t_typeInfo _|exact t_underlying _|exact t_sizeOf _|exact t_zeroValue _|exact t_isAgg _|exact t_part _ _ _|exact t_askRoom _|exact t_newRow _ _|exact t_newVar _ _|exact t_sureAddr _|exact t_runtimePanic _|exact t_asInt _|exact t_asIntOf _|exact t_asBool _|exact t_asAddr _|((with_reducible refine t_getObjB ?_ ?_ ?_);(exact fun _ _=>.inl rfl);(exact fun _ _=>.inl rfl))|exact t_choose _|exact t_loadVar _ _|exact t_shape _|(refine t_bnd ?_ ?_)|(intro _)|(refine t_ite ?_ ?_)|split|dsimp only
theorem t_cap (ts:Array TypeId)(t:TypeId)(vs:Array Value):TT P W (Builtin.cap_ ts t vs):=by
 unfold Builtin.cap_
 repeat' first|exact t_rp _ _|exact trivial|exact t_pure _|exact t_stuck _|exact t_unsupported _|exact t_goPanic _|exact t_program|exact t_typeInfo _|exact t_underlying _|exact t_sizeOf _|exact t_zeroValue _|exact t_isAgg _|exact t_part _ _ _|exact t_askRoom _|exact t_newRow _ _|exact t_newVar _ _|exact t_sureAddr _|exact t_runtimePanic _|exact t_asInt _|exact t_asIntOf _|exact t_asBool _|exact t_asAddr _|((with_reducible refine t_getObjB ?_ ?_ ?_);(exact fun _ _=>.inl rfl);(exact fun _ _=>.inl rfl))|exact t_choose _|exact t_loadVar _ _|exact t_shape _|(refine t_bnd ?_ ?_)|(intro _)|(refine t_ite ?_ ?_)|split|dsimp only
theorem t_numberAt (r:Nat):TT P W (numberAt r):=by
 unfold numberAt
 repeat' first|exact t_rp _ _|exact trivial|exact t_pure _|exact t_stuck _|exact t_unsupported _|exact t_goPanic _|exact t_program|exact t_typeInfo _|exact t_underlying _|exact t_sizeOf _|exact t_zeroValue _|exact t_isAgg _|exact t_part _ _ _|exact t_askRoom _|exact t_newRow _ _|exact t_newVar _ _|exact t_sureAddr _|exact t_runtimePanic _|exact t_asInt _|exact t_asIntOf _|exact t_asBool _|exact t_asAddr _|((with_reducible refine t_getObjB ?_ ?_ ?_);(exact fun _ _=>.inl rfl);(exact fun _ _=>.inl rfl))|exact t_choose _|exact t_loadVar _ _|exact t_shape _|(refine t_bnd ?_ ?_)|(intro _)|(refine t_ite ?_ ?_)|split|dsimp only
theorem t_behindNumber (n:Addr):TT P W (behindNumber n):=by
 unfold behindNumber
 repeat' first|exact t_rp _ _|exact trivial|exact t_pure _|exact t_stuck _|exact t_unsupported _|exact t_goPanic _|exact t_program|exact t_typeInfo _|exact t_underlying _|exact t_sizeOf _|exact t_zeroValue _|exact t_isAgg _|exact t_part _ _ _|exact t_askRoom _|exact t_newRow _ _|exact t_newVar _ _|exact t_sureAddr _|exact t_runtimePanic _|exact t_asInt _|exact t_asIntOf _|exact t_asBool _|exact t_asAddr _|((with_reducible refine t_getObjB ?_ ?_ ?_);(exact fun _ _=>.inl rfl);(exact fun _ _=>.inl rfl))|exact t_choose _|exact t_loadVar _ _|exact t_shape _|exact t_numberAt _|(refine t_bnd ?_ ?_)|(intro _)|(refine t_ite ?_ ?_)|split|dsimp only
theorem t_noView (a:Addr):TT P W (noView a):=by
 unfold noView
 repeat' first|exact t_rp _ _|exact trivial|exact t_pure _|exact t_stuck _|exact t_unsupported _|exact t_goPanic _|exact t_program|exact t_typeInfo _|exact t_underlying _|exact t_sizeOf _|exact t_zeroValue _|exact t_isAgg _|exact t_part _ _ _|exact t_askRoom _|exact t_newRow _ _|exact t_newVar _ _|exact t_sureAddr _|exact t_runtimePanic _|exact t_asInt _|exact t_asIntOf _|exact t_asBool _|exact t_asAddr _|((with_reducible refine t_getObjB ?_ ?_ ?_);(exact fun _ _=>.inl rfl);(exact fun _ _=>.inl rfl))|exact t_choose _|exact t_loadVar _ _|exact t_shape _|((with_reducible refine t_viewAtB ?_ ?_);(exact fun _=>trivial))|(refine t_bnd ?_ ?_)|(intro _)|(refine t_ite ?_ ?_)|split|dsimp only
theorem t_byteOf (a:Addr):TT P W (byteOf a):=by
 unfold byteOf
 repeat' first|exact t_rp _ _|exact trivial|exact t_pure _|exact t_stuck _|exact t_unsupported _|exact t_goPanic _|exact t_program|exact t_typeInfo _|exact t_underlying _|exact t_sizeOf _|exact t_zeroValue _|exact t_isAgg _|exact t_part _ _ _|exact t_askRoom _|exact t_newRow _ _|exact t_newVar _ _|exact t_sureAddr _|exact t_runtimePanic _|exact t_asInt _|exact t_asIntOf _|exact t_asBool _|exact t_asAddr _|((with_reducible refine t_getObjB ?_ ?_ ?_);(exact fun _ _=>.inl rfl);(exact fun _ _=>.inl rfl))|exact t_choose _|exact t_loadVar _ _|exact t_shape _|exact t_noView _|(refine t_bnd ?_ ?_)|(intro _)|(refine t_ite ?_ ?_)|split|dsimp only
theorem t_partAt (a:Addr)(c b:Nat):TT P W (partAt a c b):=by
 unfold partAt
 repeat' first|exact t_rp _ _|exact trivial|exact t_pure _|exact t_stuck _|exact t_unsupported _|exact t_goPanic _|exact t_program|exact t_typeInfo _|exact t_underlying _|exact t_sizeOf _|exact t_zeroValue _|exact t_isAgg _|exact t_part _ _ _|exact t_askRoom _|exact t_newRow _ _|exact t_newVar _ _|exact t_sureAddr _|exact t_runtimePanic _|exact t_asInt _|exact t_asIntOf _|exact t_asBool _|exact t_asAddr _|((with_reducible refine t_getObjB ?_ ?_ ?_);(exact fun _ _=>.inl rfl);(exact fun _ _=>.inl rfl))|exact t_choose _|exact t_loadVar _ _|exact t_shape _|exact t_byteOf _|(refine t_bnd ?_ ?_)|(intro _)|(refine t_ite ?_ ?_)|split|dsimp only
theorem t_fieldPlace (a:Addr)(f:Field):TT P W (fieldPlace a f):=by
 unfold fieldPlace
 repeat' first|exact t_rp _ _|exact trivial|exact t_pure _|exact t_stuck _|exact t_unsupported _|exact t_goPanic _|exact t_program|exact t_typeInfo _|exact t_underlying _|exact t_sizeOf _|exact t_zeroValue _|exact t_isAgg _|exact t_part _ _ _|exact t_askRoom _|exact t_newRow _ _|exact t_newVar _ _|exact t_sureAddr _|exact t_runtimePanic _|exact t_asInt _|exact t_asIntOf _|exact t_asBool _|exact t_asAddr _|((with_reducible refine t_getObjB ?_ ?_ ?_);(exact fun _ _=>.inl rfl);(exact fun _ _=>.inl rfl))|exact t_choose _|exact t_loadVar _ _|exact t_shape _|exact t_partAt _ _ _|(refine t_bnd ?_ ?_)|(intro _)|(refine t_ite ?_ ?_)|split|dsimp only
theorem t_fieldAt (s:TypeId)(v:Value)(i:Nat):TT P W (Instr.fieldAt s v i):=by
 unfold Instr.fieldAt
 repeat' first|exact t_rp _ _|exact trivial|exact t_pure _|exact t_stuck _|exact t_unsupported _|exact t_goPanic _|exact t_program|exact t_typeInfo _|exact t_underlying _|exact t_sizeOf _|exact t_zeroValue _|exact t_isAgg _|exact t_part _ _ _|exact t_askRoom _|exact t_newRow _ _|exact t_newVar _ _|exact t_sureAddr _|exact t_runtimePanic _|exact t_asInt _|exact t_asIntOf _|exact t_asBool _|exact t_asAddr _|((with_reducible refine t_getObjB ?_ ?_ ?_);(exact fun _ _=>.inl rfl);(exact fun _ _=>.inl rfl))|exact t_choose _|exact t_loadVar _ _|exact t_shape _|exact t_fieldPlace _ _|(refine t_bnd ?_ ?_)|(intro _)|(refine t_ite ?_ ?_)|split|dsimp only
theorem t_build (t:TypeId)(ps:Array (Nat × Value)):TT P W (Instr.build t ps):=by
 unfold Instr.build
 repeat' first|exact t_rp _ _|exact trivial|exact t_pure _|exact t_stuck _|exact t_unsupported _|exact t_goPanic _|exact t_program|exact t_typeInfo _|exact t_underlying _|exact t_sizeOf _|exact t_zeroValue _|exact t_isAgg _|exact t_part _ _ _|exact t_askRoom _|exact t_newRow _ _|exact t_newVar _ _|exact t_sureAddr _|exact t_runtimePanic _|exact t_asInt _|exact t_asIntOf _|exact t_asBool _|exact t_asAddr _|((with_reducible refine t_getObjB ?_ ?_ ?_);(exact fun _ _=>.inl rfl);(exact fun _ _=>.inl rfl))|exact t_choose _|exact t_loadVar _ _|exact t_shape _|(refine t_mapM _ ?_ _)|(refine t_bnd ?_ ?_)|(intro _)|(refine t_ite ?_ ?_)|split|dsimp only
theorem t_buildSlice (t:TypeId)(n:Nat)(ps:Array (Nat × Value)):TT P W (Instr.buildSlice t n ps):=by
 unfold Instr.buildSlice
 repeat' first|exact t_rp _ _|exact trivial|exact t_pure _|exact t_stuck _|exact t_unsupported _|exact t_goPanic _|exact t_program|exact t_typeInfo _|exact t_underlying _|exact t_sizeOf _|exact t_zeroValue _|exact t_isAgg _|exact t_part _ _ _|exact t_askRoom _|exact t_newRow _ _|exact t_newVar _ _|exact t_sureAddr _|exact t_runtimePanic _|exact t_asInt _|exact t_asIntOf _|exact t_asBool _|exact t_asAddr _|((with_reducible refine t_getObjB ?_ ?_ ?_);(exact fun _ _=>.inl rfl);(exact fun _ _=>.inl rfl))|exact t_choose _|exact t_loadVar _ _|exact t_shape _|(refine t_bnd ?_ ?_)|(intro _)|(refine t_ite ?_ ?_)|split|dsimp only
theorem t_unsafeAdd (ts:Array TypeId)(t:TypeId)(vs:Array Value):TT P W (Builtin.unsafeAdd_ ts t vs):=by
 unfold Builtin.unsafeAdd_
 rcases vs with ⟨_|⟨x,_|⟨y,_|⟨z,l⟩⟩⟩⟩<;>first|exact t_stuck _|skip
 cases x<;>first|exact t_stuck _|skip
 dsimp only
 repeat' first|exact t_rp _ _|exact trivial|exact t_pure _|exact t_stuck _|exact t_unsupported _|exact t_goPanic _|exact t_program|exact t_typeInfo _|exact t_underlying _|exact t_sizeOf _|exact t_zeroValue _|exact t_isAgg _|exact t_part _ _ _|exact t_askRoom _|exact t_newRow _ _|exact t_newVar _ _|exact t_sureAddr _|exact t_runtimePanic _|exact t_asInt _|exact t_asIntOf _|exact t_asBool _|exact t_asAddr _|((with_reducible refine t_getObjB ?_ ?_ ?_);(exact fun _ _=>.inl rfl);(exact fun _ _=>.inl rfl))|exact t_choose _|exact t_loadVar _ _|exact t_shape _|((with_reducible refine t_viewAtB ?_ ?_);(exact fun _=>trivial))|(refine t_bnd ?_ ?_)|(intro _)|(refine t_ite ?_ ?_)|split|dsimp only
theorem t_asNumber (a:Addr)(b:Bool):TT P W (asNumber a b):=by
 unfold asNumber
 repeat' first|exact t_rp _ _|exact trivial|exact t_pure _|exact t_stuck _|exact t_unsupported _|exact t_goPanic _|exact t_program|exact t_typeInfo _|exact t_underlying _|exact t_sizeOf _|exact t_zeroValue _|exact t_isAgg _|exact t_part _ _ _|exact t_askRoom _|exact t_newRow _ _|exact t_newVar _ _|exact t_sureAddr _|exact t_runtimePanic _|exact t_asInt _|exact t_asIntOf _|exact t_asBool _|exact t_asAddr _|((with_reducible refine t_getObjB ?_ ?_ ?_);(exact fun _ _=>.inl rfl);(exact fun _ _=>.inl rfl))|exact t_choose _|exact t_loadVar _ _|exact t_shape _|exact t_newObj _|(refine t_bnd ?_ ?_)|(intro _)|(refine t_ite ?_ ?_)|split|dsimp only
theorem t_movedNumber (t:TypeId)(x y:Value):TT P W (movedNumber t x y):=by
 unfold movedNumber
 repeat' first|exact t_rp _ _|exact trivial|exact t_pure _|exact t_stuck _|exact t_unsupported _|exact t_goPanic _|exact t_program|exact t_typeInfo _|exact t_underlying _|exact t_sizeOf _|exact t_zeroValue _|exact t_isAgg _|exact t_part _ _ _|exact t_askRoom _|exact t_newRow _ _|exact t_newVar _ _|exact t_sureAddr _|exact t_runtimePanic _|exact t_asInt _|exact t_asIntOf _|exact t_asBool _|exact t_asAddr _|((with_reducible refine t_getObjB ?_ ?_ ?_);(exact fun _ _=>.inl rfl);(exact fun _ _=>.inl rfl))|exact t_choose _|exact t_loadVar _ _|exact t_shape _|exact t_unsafeAdd _ _ _|exact t_behindNumber _|exact t_asNumber _ _|(refine t_bnd ?_ ?_)|(intro _)|(refine t_ite ?_ ?_)|split|dsimp only
theorem t_movedPointer (t:TypeId)(x y:Value):TT P W (movedPointer t x y):=by
 unfold movedPointer
 repeat' first|exact t_rp _ _|exact trivial|exact t_pure _|exact t_stuck _|exact t_unsupported _|exact t_goPanic _|exact t_program|exact t_typeInfo _|exact t_underlying _|exact t_sizeOf _|exact t_zeroValue _|exact t_isAgg _|exact t_part _ _ _|exact t_askRoom _|exact t_newRow _ _|exact t_newVar _ _|exact t_sureAddr _|exact t_runtimePanic _|exact t_asInt _|exact t_asIntOf _|exact t_asBool _|exact t_asAddr _|((with_reducible refine t_getObjB ?_ ?_ ?_);(exact fun _ _=>.inl rfl);(exact fun _ _=>.inl rfl))|exact t_choose _|exact t_loadVar _ _|exact t_shape _|exact t_unsafeAdd _ _ _|exact t_numberAt _|(refine t_bnd ?_ ?_)|(intro _)|(refine t_ite ?_ ?_)|split|dsimp only
theorem t_twoPlaces (a b:Addr):TT P W (Op.twoPlaces a b):=by
 unfold Op.twoPlaces
 repeat' first|exact t_rp _ _|exact trivial|exact t_pure _|exact t_stuck _|exact t_unsupported _|exact t_goPanic _|exact t_program|exact t_typeInfo _|exact t_underlying _|exact t_sizeOf _|exact t_zeroValue _|exact t_isAgg _|exact t_part _ _ _|exact t_askRoom _|exact t_newRow _ _|exact t_newVar _ _|exact t_sureAddr _|exact t_runtimePanic _|exact t_asInt _|exact t_asIntOf _|exact t_asBool _|exact t_asAddr _|((with_reducible refine t_getObjB ?_ ?_ ?_);(exact fun _ _=>.inl rfl);(exact fun _ _=>.inl rfl))|exact t_choose _|exact t_loadVar _ _|exact t_shape _|exact t_byteOf _|(refine t_bnd ?_ ?_)|(intro _)|(refine t_ite ?_ ?_)|split|dsimp only
theorem t_addrSub (k:IntKind)(a b:Addr):TT P W (Op.addrSub k a b):=by
 unfold Op.addrSub
 repeat' first|exact t_rp _ _|exact trivial|exact t_pure _|exact t_stuck _|exact t_unsupported _|exact t_goPanic _|exact t_program|exact t_typeInfo _|exact t_underlying _|exact t_sizeOf _|exact t_zeroValue _|exact t_isAgg _|exact t_part _ _ _|exact t_askRoom _|exact t_newRow _ _|exact t_newVar _ _|exact t_sureAddr _|exact t_runtimePanic _|exact t_asInt _|exact t_asIntOf _|exact t_asBool _|exact t_asAddr _|((with_reducible refine t_getObjB ?_ ?_ ?_);(exact fun _ _=>.inl rfl);(exact fun _ _=>.inl rfl))|exact t_choose _|exact t_loadVar _ _|exact t_shape _|exact t_twoPlaces _ _|(refine t_bnd ?_ ?_)|(intro _)|(refine t_ite ?_ ?_)|split|dsimp only
theorem t_addrCmp (op:BinOp)(a b:Addr):TT P W (Op.addrCmp op a b):=by
 unfold Op.addrCmp
 repeat' first|exact t_rp _ _|exact trivial|exact t_pure _|exact t_stuck _|exact t_unsupported _|exact t_goPanic _|exact t_program|exact t_typeInfo _|exact t_underlying _|exact t_sizeOf _|exact t_zeroValue _|exact t_isAgg _|exact t_part _ _ _|exact t_askRoom _|exact t_newRow _ _|exact t_newVar _ _|exact t_sureAddr _|exact t_runtimePanic _|exact t_asInt _|exact t_asIntOf _|exact t_asBool _|exact t_asAddr _|((with_reducible refine t_getObjB ?_ ?_ ?_);(exact fun _ _=>.inl rfl);(exact fun _ _=>.inl rfl))|exact t_choose _|exact t_loadVar _ _|exact t_shape _|exact t_twoPlaces _ _|(refine t_bnd ?_ ?_)|(intro _)|(refine t_ite ?_ ?_)|split|dsimp only
theorem t_addrMod (k:IntKind)(a:Addr)(n:Int):TT P W (Op.addrMod k a n):=by
 unfold Op.addrMod
 repeat' first|exact t_rp _ _|exact trivial|exact t_pure _|exact t_stuck _|exact t_unsupported _|exact t_goPanic _|exact t_program|exact t_typeInfo _|exact t_underlying _|exact t_sizeOf _|exact t_zeroValue _|exact t_isAgg _|exact t_part _ _ _|exact t_askRoom _|exact t_newRow _ _|exact t_newVar _ _|exact t_sureAddr _|exact t_runtimePanic _|exact t_asInt _|exact t_asIntOf _|exact t_asBool _|exact t_asAddr _|((with_reducible refine t_getObjB ?_ ?_ ?_);(exact fun _ _=>.inl rfl);(exact fun _ _=>.inl rfl))|exact t_choose _|exact t_loadVar _ _|exact t_shape _|exact t_byteOf _|(refine t_bnd ?_ ?_)|(intro _)|(refine t_ite ?_ ?_)|split|dsimp only
theorem t_intArith (op:BinOp)(k:IntKind)(x y:Int):TT P W (Op.intArith op k x y):=by
 unfold Op.intArith
 repeat' first|exact t_rp _ _|exact trivial|exact t_pure _|exact t_stuck _|exact t_unsupported _|exact t_goPanic _|exact t_program|exact t_typeInfo _|exact t_underlying _|exact t_sizeOf _|exact t_zeroValue _|exact t_isAgg _|exact t_part _ _ _|exact t_askRoom _|exact t_newRow _ _|exact t_newVar _ _|exact t_sureAddr _|exact t_runtimePanic _|exact t_asInt _|exact t_asIntOf _|exact t_asBool _|exact t_asAddr _|((with_reducible refine t_getObjB ?_ ?_ ?_);(exact fun _ _=>.inl rfl);(exact fun _ _=>.inl rfl))|exact t_choose _|exact t_loadVar _ _|exact t_shape _|(refine t_bnd ?_ ?_)|(intro _)|(refine t_ite ?_ ?_)|split|dsimp only
theorem t_intDiv (op:BinOp)(k:IntKind)(x y:Int):TT P W (Op.intDiv op k x y):=by
 unfold Op.intDiv
 repeat' first|exact t_rp _ _|exact trivial|exact t_pure _|exact t_stuck _|exact t_unsupported _|exact t_goPanic _|exact t_program|exact t_typeInfo _|exact t_underlying _|exact t_sizeOf _|exact t_zeroValue _|exact t_isAgg _|exact t_part _ _ _|exact t_askRoom _|exact t_newRow _ _|exact t_newVar _ _|exact t_sureAddr _|exact t_runtimePanic _|exact t_asInt _|exact t_asIntOf _|exact t_asBool _|exact t_asAddr _|((with_reducible refine t_getObjB ?_ ?_ ?_);(exact fun _ _=>.inl rfl);(exact fun _ _=>.inl rfl))|exact t_choose _|exact t_loadVar _ _|exact t_shape _|(refine t_bnd ?_ ?_)|(intro _)|(refine t_ite ?_ ?_)|split|dsimp only
theorem t_intBits (op:BinOp)(k:IntKind)(x y:Int):TT P W (Op.intBits op k x y):=by
 unfold Op.intBits
 repeat' first|exact t_rp _ _|exact trivial|exact t_pure _|exact t_stuck _|exact t_unsupported _|exact t_goPanic _|exact t_program|exact t_typeInfo _|exact t_underlying _|exact t_sizeOf _|exact t_zeroValue _|exact t_isAgg _|exact t_part _ _ _|exact t_askRoom _|exact t_newRow _ _|exact t_newVar _ _|exact t_sureAddr _|exact t_runtimePanic _|exact t_asInt _|exact t_asIntOf _|exact t_asBool _|exact t_asAddr _|((with_reducible refine t_getObjB ?_ ?_ ?_);(exact fun _ _=>.inl rfl);(exact fun _ _=>.inl rfl))|exact t_choose _|exact t_loadVar _ _|exact t_shape _|(refine t_bnd ?_ ?_)|(intro _)|(refine t_ite ?_ ?_)|split|dsimp only
theorem t_intCmp (op:BinOp)(x y:Int):TT P W (Op.intCmp op x y):=by
 unfold Op.intCmp
 repeat' first|exact t_rp _ _|exact trivial|exact t_pure _|exact t_stuck _|exact t_unsupported _|exact t_goPanic _|exact t_program|exact t_typeInfo _|exact t_underlying _|exact t_sizeOf _|exact t_zeroValue _|exact t_isAgg _|exact t_part _ _ _|exact t_askRoom _|exact t_newRow _ _|exact t_newVar _ _|exact t_sureAddr _|exact t_runtimePanic _|exact t_asInt _|exact t_asIntOf _|exact t_asBool _|exact t_asAddr _|((with_reducible refine t_getObjB ?_ ?_ ?_);(exact fun _ _=>.inl rfl);(exact fun _ _=>.inl rfl))|exact t_choose _|exact t_loadVar _ _|exact t_shape _|(refine t_bnd ?_ ?_)|(intro _)|(refine t_ite ?_ ?_)|split|dsimp only
theorem t_shift (op:BinOp)(k:IntKind)(x:Int)(k':IntKind)(y:Int):TT P W (Op.shift op k x k' y):=by
 unfold Op.shift
 repeat' first|exact t_rp _ _|exact trivial|exact t_pure _|exact t_stuck _|exact t_unsupported _|exact t_goPanic _|exact t_program|exact t_typeInfo _|exact t_underlying _|exact t_sizeOf _|exact t_zeroValue _|exact t_isAgg _|exact t_part _ _ _|exact t_askRoom _|exact t_newRow _ _|exact t_newVar _ _|exact t_sureAddr _|exact t_runtimePanic _|exact t_asInt _|exact t_asIntOf _|exact t_asBool _|exact t_asAddr _|((with_reducible refine t_getObjB ?_ ?_ ?_);(exact fun _ _=>.inl rfl);(exact fun _ _=>.inl rfl))|exact t_choose _|exact t_loadVar _ _|exact t_shape _|(refine t_bnd ?_ ?_)|(intro _)|(refine t_ite ?_ ?_)|split|dsimp only
theorem t_floatArith (op:BinOp)(k:FloatKind)(x y:Nat):TT P W (Op.floatArith op k x y):=by
 unfold Op.floatArith
 repeat' first|exact t_rp _ _|exact trivial|exact t_pure _|exact t_stuck _|exact t_unsupported _|exact t_goPanic _|exact t_program|exact t_typeInfo _|exact t_underlying _|exact t_sizeOf _|exact t_zeroValue _|exact t_isAgg _|exact t_part _ _ _|exact t_askRoom _|exact t_newRow _ _|exact t_newVar _ _|exact t_sureAddr _|exact t_runtimePanic _|exact t_asInt _|exact t_asIntOf _|exact t_asBool _|exact t_asAddr _|((with_reducible refine t_getObjB ?_ ?_ ?_);(exact fun _ _=>.inl rfl);(exact fun _ _=>.inl rfl))|exact t_choose _|exact t_loadVar _ _|exact t_shape _|(refine t_bnd ?_ ?_)|(intro _)|(refine t_ite ?_ ?_)|split|dsimp only
theorem t_floatCmp (op:BinOp)(k:FloatKind)(x y:Nat):TT P W (Op.floatCmp op k x y):=by
 unfold Op.floatCmp
 repeat' first|exact t_rp _ _|exact trivial|exact t_pure _|exact t_stuck _|exact t_unsupported _|exact t_goPanic _|exact t_program|exact t_typeInfo _|exact t_underlying _|exact t_sizeOf _|exact t_zeroValue _|exact t_isAgg _|exact t_part _ _ _|exact t_askRoom _|exact t_newRow _ _|exact t_newVar _ _|exact t_sureAddr _|exact t_runtimePanic _|exact t_asInt _|exact t_asIntOf _|exact t_asBool _|exact t_asAddr _|((with_reducible refine t_getObjB ?_ ?_ ?_);(exact fun _ _=>.inl rfl);(exact fun _ _=>.inl rfl))|exact t_choose _|exact t_loadVar _ _|exact t_shape _|(refine t_bnd ?_ ?_)|(intro _)|(refine t_ite ?_ ?_)|split|dsimp only
theorem t_stringOp (op:BinOp)(x y:ByteArray):TT P W (Op.stringOp op x y):=by
 unfold Op.stringOp
 repeat' first|exact t_rp _ _|exact trivial|exact t_pure _|exact t_stuck _|exact t_unsupported _|exact t_goPanic _|exact t_program|exact t_typeInfo _|exact t_underlying _|exact t_sizeOf _|exact t_zeroValue _|exact t_isAgg _|exact t_part _ _ _|exact t_askRoom _|exact t_newRow _ _|exact t_newVar _ _|exact t_sureAddr _|exact t_runtimePanic _|exact t_asInt _|exact t_asIntOf _|exact t_asBool _|exact t_asAddr _|((with_reducible refine t_getObjB ?_ ?_ ?_);(exact fun _ _=>.inl rfl);(exact fun _ _=>.inl rfl))|exact t_choose _|exact t_loadVar _ _|exact t_shape _|(refine t_bnd ?_ ?_)|(intro _)|(refine t_ite ?_ ?_)|split|dsimp only
theorem t_makeChan (t:TypeId)(x:Value):TT P W (Instr.makeChan t x):=by
 unfold Instr.makeChan
 repeat' first|exact t_rp _ _|exact trivial|exact t_pure _|exact t_stuck _|exact t_unsupported _|exact t_goPanic _|exact t_program|exact t_typeInfo _|exact t_underlying _|exact t_sizeOf _|exact t_zeroValue _|exact t_isAgg _|exact t_part _ _ _|exact t_askRoom _|exact t_newRow _ _|exact t_newVar _ _|exact t_sureAddr _|exact t_runtimePanic _|exact t_asInt _|exact t_asIntOf _|exact t_asBool _|exact t_asAddr _|((with_reducible refine t_getObjB ?_ ?_ ?_);(exact fun _ _=>.inl rfl);(exact fun _ _=>.inl rfl))|exact t_choose _|exact t_loadVar _ _|exact t_shape _|exact t_newObj _|(refine t_bnd ?_ ?_)|(intro _)|(refine t_ite ?_ ?_)|split|dsimp only
theorem t_unary (op:UnOp)(x:Value):TT P W (Op.unary op x):=by
 unfold Op.unary
 repeat' first|exact t_rp _ _|exact trivial|exact t_pure _|exact t_stuck _|exact t_unsupported _|exact t_goPanic _|exact t_program|exact t_typeInfo _|exact t_underlying _|exact t_sizeOf _|exact t_zeroValue _|exact t_isAgg _|exact t_part _ _ _|exact t_askRoom _|exact t_newRow _ _|exact t_newVar _ _|exact t_sureAddr _|exact t_runtimePanic _|exact t_asInt _|exact t_asIntOf _|exact t_asBool _|exact t_asAddr _|((with_reducible refine t_getObjB ?_ ?_ ?_);(exact fun _ _=>.inl rfl);(exact fun _ _=>.inl rfl))|exact t_choose _|exact t_loadVar _ _|exact t_shape _|exact t_intArith _ _ _ _|exact t_intBits _ _ _ _|(refine t_bnd ?_ ?_)|(intro _)|(refine t_ite ?_ ?_)|split|dsimp only
variable {P:Program} {W:Prop}
theorem t_append (hW:W)(ts:Array TypeId)(t:TypeId)(vs:Array Value):TT P W (Builtin.append_ ts t vs):=by
 unfold Builtin.append_
 repeat' first|exact t_rp _ _|exact t_pure _|exact t_stuck _|exact t_unsupported _|exact t_goPanic _|exact t_typeInfo _|exact t_underlying _|exact t_sizeOf _|exact t_zeroValue _|exact t_askRoom _|exact t_newRow _ _|exact t_asInt _|exact t_runtimePanic _|exact t_choose _|exact t_storeCells hW _ _ _|exact t_loadCells _ _|exact t_lenOf _|exact t_firstCells _ _ _|(refine t_of_doomed (doomed_after (mild_mayShare _ _ _ _ _) fun b=>?_);cases b<;>first|exact trivial|exact ⟨by simp,by simp,trivial⟩)|(refine t_bnd ?_ ?_)|(intro _)|(refine t_ite ?_ ?_)|split|dsimp only
end Go.Proofs.YtcgabodkegcpgaaDoor.Br
