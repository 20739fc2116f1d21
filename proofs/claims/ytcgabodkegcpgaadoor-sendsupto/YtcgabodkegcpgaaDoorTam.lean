/- The bridge, second stone: the operations' own programs are tame. -/
import Derived.Test.YtcgabodkegcpgaaDoorLok
set_option linter.unusedVariables false
set_option linter.unusedSimpArgs false
set_option maxHeartbeats 20000000
set_option maxRecDepth 100000
namespace Go.Proofs.YtcgabodkegcpgaaDoor.Br
variable {P:Program} {W:Prop}
abbrev TT {α:Type}(P:Program)(W:Prop)(e:Sem α):Prop:=Tame P W (fun _=>True) e
theorem t_pure {α:Type}(a:α):TT P W (pure a:Sem α):=trivial
theorem t_bnd {α β:Type}{Φ:β→Prop}{e:Sem α}{f:α→Sem β}(h:TT P W e)(hf:∀ a,Tame P W Φ (f a)):Tame P W Φ (e >>= f):=t_bind h fun a _=>hf a
theorem t_stuck {α:Type}{Φ:α→Prop}(s:String):Tame P W Φ (stuck s:Sem α):=.inl trivial
theorem t_unsupported {α:Type}{Φ:α→Prop}(u:Unsupported)(h:Bad (.unsupported u):=by trivial):Tame P W Φ (unsupported u:Sem α):=.inl h
theorem t_goPanic {α:Type}{Φ:α→Prop}(v:Value):Tame P W Φ (goPanic v:Sem α):=.inr ⟨v,rfl⟩
theorem t_program:TT P W program:=trivial
theorem t_prog {β:Type}{Φ:β→Prop}{f:Program→Sem β}(h:Tame P W Φ (f P)):Tame P W Φ (program >>= f):=h
theorem t_typeInfo (t:TypeId):TT P W (typeInfo t):=by
 unfold typeInfo
 repeat' first|exact trivial|exact t_program|exact t_pure _|exact t_stuck _|(refine t_bnd ?_ ?_)|(intro _)|split|dsimp only
theorem t_underlying (t:TypeId):TT P W (underlying t):=by
 unfold underlying
 repeat' first|exact trivial|exact t_program|exact t_typeInfo _|exact t_pure _|exact t_stuck _|(refine t_bnd ?_ ?_)|(intro _)|split|dsimp only
theorem t_sizeOf (t:TypeId):TT P W (sizeOf t):=by
 unfold sizeOf
 repeat' first|exact trivial|exact t_program|exact t_typeInfo _|exact t_pure _|exact t_stuck _|(refine t_bnd ?_ ?_)|(intro _)|split|dsimp only
theorem t_zeroValue (t:TypeId):TT P W (zeroValue t):=by
 unfold zeroValue
 repeat' first|exact trivial|exact t_program|exact t_typeInfo _|exact t_pure _|exact t_stuck _|exact t_unsupported _|(refine t_bnd ?_ ?_)|(intro _)|split|dsimp only
theorem t_isAgg (t:TypeId):TT P W (isAgg t):=by
 unfold isAgg
 repeat' first|exact trivial|exact t_underlying _|exact t_pure _|(refine t_bnd ?_ ?_)|(intro _)|split|dsimp only
theorem t_part (t:TypeId)(cs:Array Value)(off:Nat):TT P W (part t cs off):=by
 unfold part
 repeat' first|exact trivial|exact t_isAgg _|exact t_sizeOf _|exact t_pure _|exact t_stuck _|(refine t_bnd ?_ ?_)|(intro _)|split|dsimp only
theorem t_askRoom (n:Nat):TT P W (askRoom n):=by
 unfold askRoom
 split
 ·exact ⟨by simp,by simp,trivial⟩
 ·exact trivial
theorem t_newRow (t:TypeId)(cs:Array Value):TT P W (newRow t cs):=by
 unfold newRow
 refine t_bnd ?_ fun _=>trivial
 exact ⟨trivial,fun _=>trivial⟩
theorem t_newVar (t:TypeId)(v:Value):TT P W (newVar t v):=t_newRow _ _
theorem t_sureAddr (v:Value):TT P W (Instr.sureAddr v):=by
 unfold Instr.sureAddr
 split
 ·exact trivial
 ·exact t_stuck _
theorem t_extract (v:Value)(i:Nat):TT P W (Instr.extract v i):=by
 unfold Instr.extract
 repeat' first|exact trivial|exact t_stuck _|split
theorem t_load (a:Addr)(m:Mode):TT P W (load a m):=fun _=>trivial
theorem t_store (hW:W)(a:Addr)(v:Value)(m:Mode):TT P W (store a v m):=⟨hW,trivial⟩
theorem t_choose (q:Question):TT P W (choose q):=fun _=>trivial
theorem t_getObjB {β:Type}{Φ:β→Prop}{r:Nat}{f:Go.Obj→Sem β}(h1:∀ a t,f (.view a t)=f inert∨Doomed P (f inert))(h2:∀ c t,f (.pending c t)=f inert∨Doomed P (f inert))(h:∀ o,Tame P W Φ (f o)):Tame P W Φ (getObj r >>= f) :=
 ⟨h,fun o ho=>by cases o<;>first|exact (ho trivial).elim|exact h1 _ _|exact h2 _ _⟩
theorem t_viewAtB {β:Type}{Φ:β→Prop}{r:Nat}{f:Option (Addr × TypeId)→Sem β}(h0:∀ p,Doomed P (f (some p)))(h:Tame P W Φ (f none)):Tame P W Φ (viewAt r >>= f):=by
 intro s
 cases s with
 | some s=>exact h
 | none =>
  refine ⟨fun o=>?_,fun o _=>.inr (h0 _)⟩
  cases o<;>first|exact t_of_doomed (h0 _)|exact h
theorem t_loadCellsFrom (a:Addr)(n:Nat):∀ (i:Nat) (acc:Array Value),TT P W (loadCellsFrom a i n acc):=by
 induction n with
 | zero=>exact fun _ _=>trivial
 | succ n ih=>exact fun i acc=>t_bnd (t_load _ _) fun _=>ih _ _
theorem t_loadCells (a:Addr)(n:Nat):TT P W (loadCells a n):=t_loadCellsFrom a n 0 #[]
theorem t_storeCells (hW:W)(a:Addr)(vs:List Value):∀ i,TT P W (storeCells a vs i):=by
 induction vs with
 | nil=>exact fun _=>trivial
 | cons v rest ih=>exact fun i=>t_bnd (t_store hW _ _ _) fun _=>ih _
theorem t_loadVar (t:TypeId)(a:Addr):TT P W (loadVar t a):=by
 unfold loadVar
 repeat' first|exact trivial|exact t_pure _|exact t_stuck _|exact t_unsupported _|exact t_goPanic _|exact t_typeInfo _|exact t_underlying _|exact t_sizeOf _|exact t_zeroValue _|exact t_isAgg _|exact t_part _ _ _|exact t_askRoom _|exact t_newRow _ _|exact t_newVar _ _|exact t_sureAddr _|exact t_loadCells _ _|exact t_load _ _|(refine t_bnd ?_ ?_)|(intro _)|split|dsimp only
theorem t_storeVar (hW:W)(t:TypeId)(a:Addr)(v:Value):TT P W (storeVar t a v):=by
 unfold storeVar
 repeat' first|exact trivial|exact t_pure _|exact t_stuck _|exact t_unsupported _|exact t_goPanic _|exact t_typeInfo _|exact t_underlying _|exact t_sizeOf _|exact t_zeroValue _|exact t_isAgg _|exact t_part _ _ _|exact t_askRoom _|exact t_newRow _ _|exact t_newVar _ _|exact t_sureAddr _|exact t_storeCells hW _ _ _|(refine t_bnd ?_ ?_)|(intro _)|split|dsimp only
theorem t_elemOf (t:TypeId):TT P W (elemOf t):=by
 unfold elemOf
 repeat' first|exact trivial|exact t_pure _|exact t_stuck _|exact t_unsupported _|exact t_goPanic _|exact t_typeInfo _|exact t_underlying _|exact t_sizeOf _|exact t_zeroValue _|exact t_isAgg _|exact t_part _ _ _|exact t_askRoom _|exact t_newRow _ _|exact t_newVar _ _|exact t_sureAddr _  | (refine t_bnd ?_ ?_)|(intro _)|split|dsimp only
theorem t_runtimePanic {α:Type}{Φ:α→Prop}(e:RuntimeError):Tame P W Φ (runtimePanic e:Sem α):=by
 unfold runtimePanic
 repeat' first|exact trivial|exact t_pure _|exact t_stuck _|exact t_unsupported _|exact t_goPanic _|exact t_typeInfo _|exact t_underlying _|exact t_sizeOf _|exact t_zeroValue _|exact t_isAgg _|exact t_part _ _ _|exact t_askRoom _|exact t_newRow _ _|exact t_newVar _ _|exact t_sureAddr _|exact t_program|exact t_elemOf _|(refine t_bnd ?_ ?_)|(intro _)|split|dsimp only
theorem t_asIntOf (v:Value):TT P W (asIntOf v):=by
 unfold asIntOf
 repeat' first|exact trivial|exact t_pure _|exact t_stuck _|exact t_unsupported _|exact t_goPanic _|exact t_typeInfo _|exact t_underlying _|exact t_sizeOf _|exact t_zeroValue _|exact t_isAgg _|exact t_part _ _ _|exact t_askRoom _|exact t_newRow _ _|exact t_newVar _ _|exact t_sureAddr _  | (refine t_bnd ?_ ?_)|(intro _)|split|dsimp only
theorem t_asInt (v:Value):TT P W (asInt v):=by
 unfold asInt
 repeat' first|exact trivial|exact t_pure _|exact t_stuck _|exact t_unsupported _|exact t_goPanic _|exact t_typeInfo _|exact t_underlying _|exact t_sizeOf _|exact t_zeroValue _|exact t_isAgg _|exact t_part _ _ _|exact t_askRoom _|exact t_newRow _ _|exact t_newVar _ _|exact t_sureAddr _|exact t_asIntOf _|(refine t_bnd ?_ ?_)|(intro _)|split|dsimp only
theorem t_asBool (v:Value):TT P W (asBool v):=by
 unfold asBool
 repeat' first|exact trivial|exact t_pure _|exact t_stuck _|exact t_unsupported _|exact t_goPanic _|exact t_typeInfo _|exact t_underlying _|exact t_sizeOf _|exact t_zeroValue _|exact t_isAgg _|exact t_part _ _ _|exact t_askRoom _|exact t_newRow _ _|exact t_newVar _ _|exact t_sureAddr _  | (refine t_bnd ?_ ?_)|(intro _)|split|dsimp only
theorem t_asAgg (v:Value):TT P W (asAgg v):=by
 unfold asAgg
 repeat' first|exact trivial|exact t_pure _|exact t_stuck _|exact t_unsupported _|exact t_goPanic _|exact t_typeInfo _|exact t_underlying _|exact t_sizeOf _|exact t_zeroValue _|exact t_isAgg _|exact t_part _ _ _|exact t_askRoom _|exact t_newRow _ _|exact t_newVar _ _|exact t_sureAddr _  | (refine t_bnd ?_ ?_)|(intro _)|split|dsimp only
theorem t_asAddr (v:Value):TT P W (asAddr v):=by
 unfold asAddr
 repeat' first|exact trivial|exact t_pure _|exact t_stuck _|exact t_unsupported _|exact t_goPanic _|exact t_typeInfo _|exact t_underlying _|exact t_sizeOf _|exact t_zeroValue _|exact t_isAgg _|exact t_part _ _ _|exact t_askRoom _|exact t_newRow _ _|exact t_newVar _ _|exact t_sureAddr _|exact t_runtimePanic _|(refine t_bnd ?_ ?_)|(intro _)|split|dsimp only
theorem t_map {α β:Type}{e:Sem α}(f:α→β)(h:TT P W e):TT P W (f <$> e):=t_bind h fun _ _=>trivial
theorem t_boundsPanic {α:Type}{Φ:α→Prop}(k:IntKind)(x y:Int)(c:BoundsCode):Tame P W Φ (boundsPanic k x y c:Sem α):=by
 unfold boundsPanic
 repeat' first|exact trivial|exact t_pure _|exact t_stuck _|exact t_unsupported _|exact t_goPanic _|exact t_typeInfo _|exact t_underlying _|exact t_sizeOf _|exact t_zeroValue _|exact t_isAgg _|exact t_part _ _ _|exact t_askRoom _|exact t_newRow _ _|exact t_newVar _ _|exact t_sureAddr _|exact t_runtimePanic _|exact t_map _ (t_choose _)|(refine t_bnd ?_ ?_)|(intro _)|split|dsimp only
theorem t_loadAt (t:TypeId)(v:Value):TT P W (Instr.loadAt t v):=by
 unfold Instr.loadAt
 repeat' first|exact trivial|exact t_pure _|exact t_stuck _|exact t_unsupported _|exact t_goPanic _|exact t_typeInfo _|exact t_underlying _|exact t_sizeOf _|exact t_zeroValue _|exact t_isAgg _|exact t_part _ _ _|exact t_askRoom _|exact t_newRow _ _|exact t_newVar _ _|exact t_sureAddr _|exact t_loadVar _ _|(refine t_bnd ?_ ?_)|(intro _)|split|dsimp only
theorem t_storeAt (hW:W)(t:TypeId)(v x:Value):TT P W (Instr.storeAt t v x):=by
 unfold Instr.storeAt
 repeat' first|exact trivial|exact t_pure _|exact t_stuck _|exact t_unsupported _|exact t_goPanic _|exact t_typeInfo _|exact t_underlying _|exact t_sizeOf _|exact t_zeroValue _|exact t_isAgg _|exact t_part _ _ _|exact t_askRoom _|exact t_newRow _ _|exact t_newVar _ _|exact t_sureAddr _|exact t_storeVar hW _ _ _|(refine t_bnd ?_ ?_)|(intro _)|split|dsimp only
theorem t_indexAt (t:TypeId)(x i:Value):TT P W (Instr.indexAt t x i):=by
 unfold Instr.indexAt
 repeat' first|exact trivial|exact t_pure _|exact t_stuck _|exact t_unsupported _|exact t_goPanic _|exact t_typeInfo _|exact t_underlying _|exact t_sizeOf _|exact t_zeroValue _|exact t_isAgg _|exact t_part _ _ _|exact t_askRoom _|exact t_newRow _ _|exact t_newVar _ _|exact t_sureAddr _|exact t_asIntOf _|exact t_boundsPanic _ _ _ _|(refine t_bnd ?_ ?_)|(intro _)|split|dsimp only
theorem t_box (t:TypeId)(v:Value):TT P W (Instr.box t v):=by
 unfold Instr.box
 repeat' first|exact trivial|exact t_pure _|exact t_stuck _|exact t_unsupported _|exact t_goPanic _|exact t_typeInfo _|exact t_underlying _|exact t_sizeOf _|exact t_zeroValue _|exact t_isAgg _|exact t_part _ _ _|exact t_askRoom _|exact t_newRow _ _|exact t_newVar _ _|exact t_sureAddr _  | (refine t_bnd ?_ ?_)|(intro _)|split|dsimp only
theorem t_alloc (hW:W)(t:TypeId)(h:Bool)(v:Value):TT P W (Instr.alloc t h v):=by
 unfold Instr.alloc
 repeat' first|exact trivial|exact t_pure _|exact t_stuck _|exact t_unsupported _|exact t_goPanic _|exact t_typeInfo _|exact t_underlying _|exact t_sizeOf _|exact t_zeroValue _|exact t_isAgg _|exact t_part _ _ _|exact t_askRoom _|exact t_newRow _ _|exact t_newVar _ _|exact t_sureAddr _|exact t_storeVar hW _ _ _|(refine t_bnd ?_ ?_)|(intro _)|split|dsimp only
theorem t_field (t:TypeId)(v:Value)(i:Nat):TT P W (Instr.field t v i):=by
 unfold Instr.field
 repeat' first|exact trivial|exact t_pure _|exact t_stuck _|exact t_unsupported _|exact t_goPanic _|exact t_typeInfo _|exact t_underlying _|exact t_sizeOf _|exact t_zeroValue _|exact t_isAgg _|exact t_part _ _ _|exact t_askRoom _|exact t_newRow _ _|exact t_newVar _ _|exact t_sureAddr _|exact t_asAgg _|(refine t_bnd ?_ ?_)|(intro _)|split|dsimp only
theorem t_index (t:TypeId)(v i:Value):TT P W (Instr.index t v i):=by
 unfold Instr.index
 repeat' first|exact trivial|exact t_pure _|exact t_stuck _|exact t_unsupported _|exact t_goPanic _|exact t_typeInfo _|exact t_underlying _|exact t_sizeOf _|exact t_zeroValue _|exact t_isAgg _|exact t_part _ _ _|exact t_askRoom _|exact t_newRow _ _|exact t_newVar _ _|exact t_sureAddr _|exact t_asIntOf _|exact t_boundsPanic _ _ _ _|(refine t_bnd ?_ ?_)|(intro _)|split|dsimp only
theorem t_ite {α:Type}{Φ:α→Prop}{c:Prop}[Decidable c]{x y:Sem α}(h:Tame P W Φ x)(h':Tame P W Φ y):Tame P W Φ (if c then x else y):=by
 split
 ·exact h
 ·exact h'
theorem t_rp {α β:Type}{Φ:β→Prop}(m:String)(f:α→Sem β):Tame P W Φ ((runtimePanic (.error m):Sem α) >>= f):=.inr ⟨_,rfl⟩
theorem t_makeSlice (t:TypeId)(v i:Value):TT P W (Instr.makeSlice t v i):=by
 unfold Instr.makeSlice
 repeat' first|exact t_rp _ _|exact trivial|exact t_pure _|exact t_stuck _|exact t_unsupported _|exact t_goPanic _|exact t_typeInfo _|exact t_underlying _|exact t_sizeOf _|exact t_zeroValue _|exact t_isAgg _|exact t_part _ _ _|exact t_askRoom _|exact t_newRow _ _|exact t_newVar _ _|exact t_sureAddr _|exact t_asInt _|exact t_runtimePanic _|exact t_choose _|(refine t_bnd ?_ ?_)|(intro _)|(refine t_ite ?_ ?_)|split|dsimp only
theorem t_sliceBound (x:Value)(y:Nat)(c:BoundsCode):TT P W (Instr.sliceBound x y c):=by
 unfold Instr.sliceBound
 repeat' first|exact trivial|exact t_pure _|exact t_stuck _|exact t_unsupported _|exact t_goPanic _|exact t_typeInfo _|exact t_underlying _|exact t_sizeOf _|exact t_zeroValue _|exact t_isAgg _|exact t_part _ _ _|exact t_askRoom _|exact t_newRow _ _|exact t_newVar _ _|exact t_sureAddr _|exact t_asIntOf _|exact t_boundsPanic _ _ _ _|(refine t_bnd ?_ ?_)|(intro _)|split|dsimp only
theorem t_sliceBounds (b:Bool)(l c:Nat)(x y z:Option Value):TT P W (Instr.sliceBounds b l c x y z):=by
 unfold Instr.sliceBounds
 repeat' first|exact trivial|exact t_pure _|exact t_stuck _|exact t_unsupported _|exact t_goPanic _|exact t_typeInfo _|exact t_underlying _|exact t_sizeOf _|exact t_zeroValue _|exact t_isAgg _|exact t_part _ _ _|exact t_askRoom _|exact t_newRow _ _|exact t_newVar _ _|exact t_sureAddr _|exact t_sliceBound _ _ _|(refine t_bnd ?_ ?_)|(intro _)|split|dsimp only
theorem t_slice (t:TypeId)(v:Value)(x y z:Option Value):TT P W (Instr.slice t v x y z):=by
 unfold Instr.slice
 repeat' first|exact trivial|exact t_pure _|exact t_stuck _|exact t_unsupported _|exact t_goPanic _|exact t_typeInfo _|exact t_underlying _|exact t_sizeOf _|exact t_zeroValue _|exact t_isAgg _|exact t_part _ _ _|exact t_askRoom _|exact t_newRow _ _|exact t_newVar _ _|exact t_sureAddr _|exact t_sliceBounds _ _ _ _ _ _|exact t_asAddr _|(refine t_bnd ?_ ?_)|(intro _)|split|dsimp only
theorem t_sliceAt (t:TypeId)(v:Value)(x y z:Option Value):TT P W (Instr.sliceAt t v x y z):=by
 unfold Instr.sliceAt
 repeat' first|exact trivial|exact t_pure _|exact t_stuck _|exact t_unsupported _|exact t_goPanic _|exact t_typeInfo _|exact t_underlying _|exact t_sizeOf _|exact t_zeroValue _|exact t_isAgg _|exact t_part _ _ _|exact t_askRoom _|exact t_newRow _ _|exact t_newVar _ _|exact t_sureAddr _|exact t_sliceBounds _ _ _ _ _ _|exact t_slice _ _ _ _ _|(refine t_bnd ?_ ?_)|(intro _)|split|dsimp only
theorem t_makeInterface (t:TypeId)(v:Value):TT P W (Instr.makeInterface t v):=by
 unfold Instr.makeInterface
 repeat' first|exact trivial|exact t_pure _|exact t_stuck _|exact t_unsupported _|exact t_goPanic _|exact t_typeInfo _|exact t_underlying _|exact t_sizeOf _|exact t_zeroValue _|exact t_isAgg _|exact t_part _ _ _|exact t_askRoom _|exact t_newRow _ _|exact t_newVar _ _|exact t_sureAddr _  | (refine t_bnd ?_ ?_)|(intro _)|split|dsimp only
theorem t_typeAssert (v:Value)(t u:TypeId)(b:Bool):TT P W (Instr.typeAssert v t u b):=by
 unfold Instr.typeAssert
 repeat' first|exact trivial|exact t_pure _|exact t_stuck _|exact t_unsupported _|exact t_goPanic _|exact t_typeInfo _|exact t_underlying _|exact t_sizeOf _|exact t_zeroValue _|exact t_isAgg _|exact t_part _ _ _|exact t_askRoom _|exact t_newRow _ _|exact t_newVar _ _|exact t_sureAddr _|exact t_runtimePanic _|(refine t_bnd ?_ ?_)|(intro _)|split|dsimp only
theorem mild_holdsCells (a:Addr)(n:Nat):Mild P (Builtin.holdsCells a n):=by
 unfold Builtin.holdsCells
 refine mild_bind (fun s=>trivial) fun s=>?_
 split<;>exact trivial
theorem mild_frozen (a:Addr):Mild P (frozen a):=fun _=>trivial
theorem mild_mayShare (size sLen n:Nat)(base:Option Addr)(x:Value):Mild P (Builtin.mayShare size sLen n base x):=by
 unfold Builtin.mayShare
 repeat' first|exact trivial|exact mild_holdsCells _ _|exact mild_frozen _|(refine mild_bind ?_ ?_)|(intro _)|split|dsimp only
theorem t_lenOf (v:Value):TT P W (Builtin.lenOf v):=by
 unfold Builtin.lenOf
 repeat' first|exact trivial|exact t_pure _|exact t_stuck _|exact t_unsupported _|exact t_goPanic _|exact t_typeInfo _|exact t_underlying _|exact t_sizeOf _|exact t_zeroValue _|exact t_askRoom _|exact t_newRow _ _|exact t_asInt _|exact t_runtimePanic _|exact t_choose _|exact t_loadCells _ _  | (refine t_bnd ?_ ?_)|(intro _)|split|dsimp only
theorem t_firstCells (a n:Nat)(v:Value):TT P W (Builtin.firstCells a n v):=by
 unfold Builtin.firstCells
 repeat' first|exact trivial|exact t_pure _|exact t_stuck _|exact t_unsupported _|exact t_goPanic _|exact t_typeInfo _|exact t_underlying _|exact t_sizeOf _|exact t_zeroValue _|exact t_askRoom _|exact t_newRow _ _|exact t_asInt _|exact t_runtimePanic _|exact t_choose _|exact t_loadCells _ _  | (refine t_bnd ?_ ?_)|(intro _)|split|dsimp only
theorem t_copy (hW:W)(ts:Array TypeId)(t:TypeId)(vs:Array Value):TT P W (Builtin.copy_ ts t vs):=by
 unfold Builtin.copy_
 repeat' first|exact trivial|exact t_pure _|exact t_stuck _|exact t_unsupported _|exact t_goPanic _|exact t_typeInfo _|exact t_underlying _|exact t_sizeOf _|exact t_zeroValue _|exact t_askRoom _|exact t_newRow _ _|exact t_asInt _|exact t_runtimePanic _|exact t_choose _|exact t_storeCells hW _ _ _|exact t_loadCells _ _|exact t_lenOf _|exact t_firstCells _ _ _|(refine t_bnd ?_ ?_)|(intro _)|split|dsimp only
end Go.Proofs.YtcgabodkegcpgaaDoor.Br
