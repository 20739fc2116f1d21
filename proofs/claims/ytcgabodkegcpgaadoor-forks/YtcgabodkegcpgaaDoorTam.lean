/- The bridge, second stone: the operations' own programs are tame. -/
import Derived.Test.YtcgabodkegcpgaaDoorLok
import Derived.Laws.Sem
set_option linter.unusedVariables false
set_option linter.unusedSimpArgs false
set_option maxHeartbeats 20000000
set_option maxRecDepth 100000
namespace Go.Proofs.YtcgabodkegcpgaaDoor.Br
variable {P:Program} {W:Prop}
abbrev TT {α:Type}(P:Program)(W:Prop)(e:Sem α):Prop:=E6 P W (λ_=>True) e
theorem n9 {α:Type}(a:α):TT P W (pure a:Sem α):=trivial
theorem p8 {α β:Type}{Φ:β->Prop}{e:Sem α}{f:α->Sem β}(h:TT P W e)(hf:∀ a,E6 P W Φ (f a)):E6 P W Φ (e >>= f):=a4T h λa _=>hf a
theorem i5 {α:Type}{Φ:α->Prop}(s:String):E6 P W Φ (stuck s:Sem α):=.inl trivial
theorem d6 {α:Type}{Φ:α->Prop}(u:Unsupported)(h:Bad (.unsupported u):=by trivial):E6 P W Φ (unsupported u:Sem α):=.inl h
theorem g7 {α:Type}{Φ:α->Prop}(v:Value):E6 P W Φ (goPanic v:Sem α):=.inr ⟨v,rfl⟩
theorem j4:TT P W program:=trivial
theorem c0Y {β:Type}{Φ:β->Prop}{f:Program->Sem β}(h:E6 P W Φ (f P)):E6 P W Φ (program >>= f):=h
theorem g5 (t:TypeId):TT P W (typeInfo t):=by
 unfold typeInfo
 repeat' first|exact trivial|exact j4|exact n9 _|exact i5 _|(refine p8 ?_ ?_)|(intro _)|split|dsimp only
theorem d8 (t:TypeId):TT P W (underlying t):=by
 unfold underlying
 repeat' first|exact trivial|exact j4|exact g5 _|exact n9 _|exact i5 _|(refine p8 ?_ ?_)|(intro _)|split|dsimp only
theorem i7 (t:TypeId):TT P W (sizeOf t):=by
 unfold sizeOf
 repeat' first|exact trivial|exact j4|exact g5 _|exact n9 _|exact i5 _|(refine p8 ?_ ?_)|(intro _)|split|dsimp only
theorem g6 (t:TypeId):TT P W (zeroValue t):=by
 unfold zeroValue
 repeat' first|exact trivial|exact j4|exact g5 _|exact n9 _|exact i5 _|exact d6 _|(refine p8 ?_ ?_)|(intro _)|split|dsimp only
theorem p7 (t:TypeId):TT P W (isAgg t):=by
 unfold isAgg
 repeat' first|exact trivial|exact d8 _|exact n9 _|(refine p8 ?_ ?_)|(intro _)|split|dsimp only
theorem s7 (t:TypeId)(cs:Array Value)(off:Nat):TT P W (part t cs off):=by
 unfold part
 repeat' first|exact trivial|exact p7 _|exact i7 _|exact n9 _|exact i5 _|(refine p8 ?_ ?_)|(intro _)|split|dsimp only
theorem i8 (n:Nat):TT P W (askRoom n):=by
 unfold askRoom;split
 ·exact ⟨by simp,by simp,trivial⟩
 ·exact trivial
theorem j5 (t:TypeId)(cs:Array Value):TT P W (newRow t cs):=by
 unfold newRow;refine p8 ?_ λ_=>trivial;exact ⟨trivial,λ_=>trivial⟩
theorem m7 (t:TypeId)(v:Value):TT P W (newVar t v):=j5 _ _
theorem i6 (v:Value):TT P W (Instr.sureAddr v):=by
 unfold Instr.sureAddr;split
 ·exact trivial
 ·exact i5 _
theorem b5q (v:Value)(i:Nat):TT P W (Instr.extract v i):=by
 unfold Instr.extract
 repeat' first|exact trivial|exact i5 _|split
theorem b8l (a:Addr)(m:Mode):TT P W (load a m):=λ_=>trivial
theorem b9R (hW:W)(a:Addr)(v:Value)(m:Mode):TT P W (store a v m):=⟨hW,trivial⟩
theorem n7 (q:Question):TT P W (choose q):=λ_=>trivial
theorem m9 {β:Type}{Φ:β->Prop}{r:Nat}{f:Go.Obj->Sem β}(h1:∀ a t,f (.view a t)=f a1b\/Q5 P (f a1b))(h2:∀ c t,f (.pending c t)=f a1b\/Q5 P (f a1b))(h:∀ o,E6 P W Φ (f o)):E6 P W Φ (getObj r >>= f) :=
 ⟨h,λo ho=>by cases o<;>first|exact (ho trivial).elim|exact h1 _ _|exact h2 _ _⟩
theorem a8w {β:Type}{Φ:β->Prop}{r:Nat}{f:Option (Addr × TypeId)->Sem β}(h0:∀ p,Q5 P (f (some p)))(h:E6 P W Φ (f none)):E6 P W Φ (viewAt r >>= f):=by
 intro s
 cases s with
 | some s=>exact h
 | none =>
  refine ⟨λo=>?_,λo _=>.inr (h0 _)⟩;cases o<;>first|exact U1 (h0 _)|exact h
theorem a5y (a:Addr)(n:Nat):∀ (i:Nat) (acc:Array Value),TT P W (loadCellsFrom a i n acc):=by
 induction n with
 | zero=>exact λ_ _=>trivial
 | succ n ih=>exact λi acc=>p8 (b8l _ _) λ_=>ih _ _
theorem a0k (a:Addr)(n:Nat):TT P W (loadCells a n):=a5y a n 0 #[]
theorem a1R (hW:W)(a:Addr)(vs:List Value):∀ i,TT P W (storeCells a vs i):=by
 induction vs with
 | nil=>exact λ_=>trivial
 | cons v rest ih=>exact λi=>p8 (b9R hW _ _ _) λ_=>ih _
theorem k9 (t:TypeId)(a:Addr):TT P W (loadVar t a):=by
 unfold loadVar
 repeat' first|exact trivial|exact n9 _|exact i5 _|exact d6 _|exact g7 _|exact g5 _|exact d8 _|exact i7 _|exact g6 _|exact p7 _|exact s7 _ _ _|exact i8 _|exact j5 _ _|exact m7 _ _|exact i6 _|exact a0k _ _|exact b8l _ _|(refine p8 ?_ ?_)|(intro _)|split|dsimp only
theorem a7l (hW:W)(t:TypeId)(a:Addr)(v:Value):TT P W (storeVar t a v):=by
 unfold storeVar
 repeat' first|exact trivial|exact n9 _|exact i5 _|exact d6 _|exact g7 _|exact g5 _|exact d8 _|exact i7 _|exact g6 _|exact p7 _|exact s7 _ _ _|exact i8 _|exact j5 _ _|exact m7 _ _|exact i6 _|exact a1R hW _ _ _|(refine p8 ?_ ?_)|(intro _)|split|dsimp only
theorem b8m (t:TypeId):TT P W (elemOf t):=by
 unfold elemOf
 repeat' first|exact trivial|exact n9 _|exact i5 _|exact d6 _|exact g7 _|exact g5 _|exact d8 _|exact i7 _|exact g6 _|exact p7 _|exact s7 _ _ _|exact i8 _|exact j5 _ _|exact m7 _ _|exact i6 _  | (refine p8 ?_ ?_)|(intro _)|split|dsimp only
theorem d9 {α:Type}{Φ:α->Prop}(e:RuntimeError):E6 P W Φ (runtimePanic e:Sem α):=by
 unfold runtimePanic
 repeat' first|exact trivial|exact n9 _|exact i5 _|exact d6 _|exact g7 _|exact g5 _|exact d8 _|exact i7 _|exact g6 _|exact p7 _|exact s7 _ _ _|exact i8 _|exact j5 _ _|exact m7 _ _|exact i6 _|exact j4|exact b8m _|(refine p8 ?_ ?_)|(intro _)|split|dsimp only
theorem k8 (v:Value):TT P W (asIntOf v):=by
 unfold asIntOf
 repeat' first|exact trivial|exact n9 _|exact i5 _|exact d6 _|exact g7 _|exact g5 _|exact d8 _|exact i7 _|exact g6 _|exact p7 _|exact s7 _ _ _|exact i8 _|exact j5 _ _|exact m7 _ _|exact i6 _  | (refine p8 ?_ ?_)|(intro _)|split|dsimp only
theorem p9 (v:Value):TT P W (asInt v):=by
 unfold asInt
 repeat' first|exact trivial|exact n9 _|exact i5 _|exact d6 _|exact g7 _|exact g5 _|exact d8 _|exact i7 _|exact g6 _|exact p7 _|exact s7 _ _ _|exact i8 _|exact j5 _ _|exact m7 _ _|exact i6 _|exact k8 _|(refine p8 ?_ ?_)|(intro _)|split|dsimp only
theorem p6 (v:Value):TT P W (asBool v):=by
 unfold asBool
 repeat' first|exact trivial|exact n9 _|exact i5 _|exact d6 _|exact g7 _|exact g5 _|exact d8 _|exact i7 _|exact g6 _|exact p7 _|exact s7 _ _ _|exact i8 _|exact j5 _ _|exact m7 _ _|exact i6 _  | (refine p8 ?_ ?_)|(intro _)|split|dsimp only
theorem b9S (v:Value):TT P W (asAgg v):=by
 unfold asAgg
 repeat' first|exact trivial|exact n9 _|exact i5 _|exact d6 _|exact g7 _|exact g5 _|exact d8 _|exact i7 _|exact g6 _|exact p7 _|exact s7 _ _ _|exact i8 _|exact j5 _ _|exact m7 _ _|exact i6 _  | (refine p8 ?_ ?_)|(intro _)|split|dsimp only
theorem p5 (v:Value):TT P W (asAddr v):=by
 unfold asAddr
 repeat' first|exact trivial|exact n9 _|exact i5 _|exact d6 _|exact g7 _|exact g5 _|exact d8 _|exact i7 _|exact g6 _|exact p7 _|exact s7 _ _ _|exact i8 _|exact j5 _ _|exact m7 _ _|exact i6 _|exact d9 _|(refine p8 ?_ ?_)|(intro _)|split|dsimp only
theorem c0j {α β:Type}{e:Sem α}(f:α->β)(h:TT P W e):TT P W (f <$> e):=a4T h λ_ _=>trivial
theorem a1o {α:Type}{Φ:α->Prop}(k:IntKind)(x y:Int)(c:BoundsCode):E6 P W Φ (boundsPanic k x y c:Sem α):=by
 unfold boundsPanic
 repeat' first|exact trivial|exact n9 _|exact i5 _|exact d6 _|exact g7 _|exact g5 _|exact d8 _|exact i7 _|exact g6 _|exact p7 _|exact s7 _ _ _|exact i8 _|exact j5 _ _|exact m7 _ _|exact i6 _|exact d9 _|exact c0j _ (n7 _)|(refine p8 ?_ ?_)|(intro _)|split|dsimp only
theorem b8n (t:TypeId)(v:Value):TT P W (Instr.loadAt t v):=by
 unfold Instr.loadAt
 repeat' first|exact trivial|exact n9 _|exact i5 _|exact d6 _|exact g7 _|exact g5 _|exact d8 _|exact i7 _|exact g6 _|exact p7 _|exact s7 _ _ _|exact i8 _|exact j5 _ _|exact m7 _ _|exact i6 _|exact k9 _ _|(refine p8 ?_ ?_)|(intro _)|split|dsimp only
theorem b5r (hW:W)(t:TypeId)(v x:Value):TT P W (Instr.storeAt t v x):=by
 unfold Instr.storeAt
 repeat' first|exact trivial|exact n9 _|exact i5 _|exact d6 _|exact g7 _|exact g5 _|exact d8 _|exact i7 _|exact g6 _|exact p7 _|exact s7 _ _ _|exact i8 _|exact j5 _ _|exact m7 _ _|exact i6 _|exact a7l hW _ _ _|(refine p8 ?_ ?_)|(intro _)|split|dsimp only
theorem b5s (t:TypeId)(x i:Value):TT P W (Instr.indexAt t x i):=by
 unfold Instr.indexAt
 repeat' first|exact trivial|exact n9 _|exact i5 _|exact d6 _|exact g7 _|exact g5 _|exact d8 _|exact i7 _|exact g6 _|exact p7 _|exact s7 _ _ _|exact i8 _|exact j5 _ _|exact m7 _ _|exact i6 _|exact k8 _|exact a1o _ _ _ _|(refine p8 ?_ ?_)|(intro _)|split|dsimp only
theorem c1W (t:TypeId)(v:Value):TT P W (Instr.box t v):=by
 unfold Instr.box
 repeat' first|exact trivial|exact n9 _|exact i5 _|exact d6 _|exact g7 _|exact g5 _|exact d8 _|exact i7 _|exact g6 _|exact p7 _|exact s7 _ _ _|exact i8 _|exact j5 _ _|exact m7 _ _|exact i6 _  | (refine p8 ?_ ?_)|(intro _)|split|dsimp only
theorem b9T (hW:W)(t:TypeId)(h:Bool)(v:Value):TT P W (Instr.alloc t h v):=by
 unfold Instr.alloc
 repeat' first|exact trivial|exact n9 _|exact i5 _|exact d6 _|exact g7 _|exact g5 _|exact d8 _|exact i7 _|exact g6 _|exact p7 _|exact s7 _ _ _|exact i8 _|exact j5 _ _|exact m7 _ _|exact i6 _|exact a7l hW _ _ _|(refine p8 ?_ ?_)|(intro _)|split|dsimp only
theorem b9U (t:TypeId)(v:Value)(i:Nat):TT P W (Instr.field t v i):=by
 unfold Instr.field
 repeat' first|exact trivial|exact n9 _|exact i5 _|exact d6 _|exact g7 _|exact g5 _|exact d8 _|exact i7 _|exact g6 _|exact p7 _|exact s7 _ _ _|exact i8 _|exact j5 _ _|exact m7 _ _|exact i6 _|exact b9S _|(refine p8 ?_ ?_)|(intro _)|split|dsimp only
theorem b9V (t:TypeId)(v i:Value):TT P W (Instr.index t v i):=by
 unfold Instr.index
 repeat' first|exact trivial|exact n9 _|exact i5 _|exact d6 _|exact g7 _|exact g5 _|exact d8 _|exact i7 _|exact g6 _|exact p7 _|exact s7 _ _ _|exact i8 _|exact j5 _ _|exact m7 _ _|exact i6 _|exact k8 _|exact a1o _ _ _ _|(refine p8 ?_ ?_)|(intro _)|split|dsimp only
theorem A7 {α:Type}{Φ:α->Prop}{c:Prop}[Decidable c]{x y:Sem α}(h:E6 P W Φ x)(h':E6 P W Φ y):E6 P W Φ (if c then x else y):=by
 split
 ·exact h
 ·exact h'
theorem E9 {α β:Type}{Φ:β->Prop}(m:String)(f:α->Sem β):E6 P W Φ ((runtimePanic (.error m):Sem α) >>= f):=.inr ⟨_,rfl⟩
theorem b0S (t:TypeId)(v i:Value):TT P W (Instr.makeSlice t v i):=by
 unfold Instr.makeSlice
 repeat' first|exact E9 _ _|exact trivial|exact n9 _|exact i5 _|exact d6 _|exact g7 _|exact g5 _|exact d8 _|exact i7 _|exact g6 _|exact p7 _|exact s7 _ _ _|exact i8 _|exact j5 _ _|exact m7 _ _|exact i6 _|exact p9 _|exact d9 _|exact n7 _|(refine p8 ?_ ?_)|(intro _)|(refine A7 ?_ ?_)|split|dsimp only
theorem a9l (x:Value)(y:Nat)(c:BoundsCode):TT P W (Instr.sliceBound x y c):=by
 unfold Instr.sliceBound
 repeat' first|exact trivial|exact n9 _|exact i5 _|exact d6 _|exact g7 _|exact g5 _|exact d8 _|exact i7 _|exact g6 _|exact p7 _|exact s7 _ _ _|exact i8 _|exact j5 _ _|exact m7 _ _|exact i6 _|exact k8 _|exact a1o _ _ _ _|(refine p8 ?_ ?_)|(intro _)|split|dsimp only
theorem a3l (b:Bool)(l c:Nat)(x y z:Option Value):TT P W (Instr.sliceBounds b l c x y z):=by
 unfold Instr.sliceBounds
 repeat' first|exact trivial|exact n9 _|exact i5 _|exact d6 _|exact g7 _|exact g5 _|exact d8 _|exact i7 _|exact g6 _|exact p7 _|exact s7 _ _ _|exact i8 _|exact j5 _ _|exact m7 _ _|exact i6 _|exact a9l _ _ _|(refine p8 ?_ ?_)|(intro _)|split|dsimp only
theorem b9W (t:TypeId)(v:Value)(x y z:Option Value):TT P W (Instr.slice t v x y z):=by
 unfold Instr.slice
 repeat' first|exact trivial|exact n9 _|exact i5 _|exact d6 _|exact g7 _|exact g5 _|exact d8 _|exact i7 _|exact g6 _|exact p7 _|exact s7 _ _ _|exact i8 _|exact j5 _ _|exact m7 _ _|exact i6 _|exact a3l _ _ _ _ _ _|exact p5 _|(refine p8 ?_ ?_)|(intro _)|split|dsimp only
theorem b5t (t:TypeId)(v:Value)(x y z:Option Value):TT P W (Instr.sliceAt t v x y z):=by
 unfold Instr.sliceAt
 repeat' first|exact trivial|exact n9 _|exact i5 _|exact d6 _|exact g7 _|exact g5 _|exact d8 _|exact i7 _|exact g6 _|exact p7 _|exact s7 _ _ _|exact i8 _|exact j5 _ _|exact m7 _ _|exact i6 _|exact a3l _ _ _ _ _ _|exact b9W _ _ _ _ _|(refine p8 ?_ ?_)|(intro _)|split|dsimp only
theorem a5z (t:TypeId)(v:Value):TT P W (Instr.makeInterface t v):=by
 unfold Instr.makeInterface
 repeat' first|exact trivial|exact n9 _|exact i5 _|exact d6 _|exact g7 _|exact g5 _|exact d8 _|exact i7 _|exact g6 _|exact p7 _|exact s7 _ _ _|exact i8 _|exact j5 _ _|exact m7 _ _|exact i6 _  | (refine p8 ?_ ?_)|(intro _)|split|dsimp only
theorem a9m (v:Value)(t u:TypeId)(b:Bool):TT P W (Instr.typeAssert v t u b):=by
 unfold Instr.typeAssert
 repeat' first|exact trivial|exact n9 _|exact i5 _|exact d6 _|exact g7 _|exact g5 _|exact d8 _|exact i7 _|exact g6 _|exact p7 _|exact s7 _ _ _|exact i8 _|exact j5 _ _|exact m7 _ _|exact i6 _|exact d9 _|(refine p8 ?_ ?_)|(intro _)|split|dsimp only
theorem a5A (a:Addr)(n:Nat):a5u P (Builtin.holdsCells a n):=by
 unfold Builtin.holdsCells;refine a7U (λs=>trivial) λs=>?_;split<;>exact trivial
theorem b0T (a:Addr):a5u P (frozen a):=λ_=>trivial
theorem a7J (size sLen n:Nat)(base:Option Addr)(x:Value):a5u P (Builtin.mayShare size sLen n base x):=by
 unfold Builtin.mayShare
 repeat' first|exact trivial|exact a5A _ _|exact b0T _|(refine a7U ?_ ?_)|(intro _)|split|dsimp only
theorem b3b (v:Value):TT P W (Builtin.lenOf v):=by
 unfold Builtin.lenOf
 repeat' first|exact trivial|exact n9 _|exact i5 _|exact d6 _|exact g7 _|exact g5 _|exact d8 _|exact i7 _|exact g6 _|exact i8 _|exact j5 _ _|exact p9 _|exact d9 _|exact n7 _|exact a0k _ _  | (refine p8 ?_ ?_)|(intro _)|split|dsimp only
theorem a4D (a n:Nat)(v:Value):TT P W (Builtin.firstCells a n v):=by
 unfold Builtin.firstCells
 repeat' first|exact trivial|exact n9 _|exact i5 _|exact d6 _|exact g7 _|exact g5 _|exact d8 _|exact i7 _|exact g6 _|exact i8 _|exact j5 _ _|exact p9 _|exact d9 _|exact n7 _|exact a0k _ _  | (refine p8 ?_ ?_)|(intro _)|split|dsimp only
theorem c0Z (hW:W)(ts:Array TypeId)(t:TypeId)(vs:Array Value):TT P W (Builtin.copy_ ts t vs):=by
 unfold Builtin.copy_
 repeat' first|exact trivial|exact n9 _|exact i5 _|exact d6 _|exact g7 _|exact g5 _|exact d8 _|exact i7 _|exact g6 _|exact i8 _|exact j5 _ _|exact p9 _|exact d9 _|exact n7 _|exact a1R hW _ _ _|exact a0k _ _|exact b3b _|exact a4D _ _ _|(refine p8 ?_ ?_)|(intro _)|split|dsimp only
variable {P:Program} {W:Prop}
theorem s4 (r:Nat):TT P W (shape r):=λ_=>trivial
theorem b0U (o:Go.Obj)(h:Obj.sight o:=by trivial):TT P W (newObj o):=⟨h,λ_=>trivial⟩
theorem a7m {α β:Type}(f:α->Sem β)(h:∀ a,TT P W (f a)):∀ l:List α,TT P W (l.mapM f)
 | []=>by simp only [List.mapM_nil];exact trivial
 | a::l=>by
  simp only [List.mapM_cons];exact p8 (h a) λ_=>p8 (a7m f h l) λ_=>trivial
theorem b8o {α β:Type}(f:α->Sem β)(h:∀ a,TT P W (f a))(xs:Array α):TT P W (xs.mapM f):=by
 rw [Array.mapM_eq_mapM_toList];exact c0j _ (a7m f h _)
theorem a2H {α β:Type}(f:α->β->Sem (ForInStep β))(h:∀ a b,TT P W (f a b)):∀ (l:List α) (b:β),TT P W (forIn l b f)
 | [],b=>by simp only [List.forIn_nil];exact trivial
 | a::l,b=>by
  simp only [List.forIn_cons];refine p8 (h a b) λs=>?_
  cases s with
  | done b=>exact trivial
  | yield b=>exact a2H f h l b
theorem a9n {α β:Type}(f:α->β->Sem (ForInStep β))(h:∀ a b,TT P W (f a b))(xs:Array α)(b:β):TT P W (forIn xs b f):=by
 rw [← Array.forIn_toList];exact a2H f h _ _
theorem a4E {β:Type}(f:Nat->β->Sem (ForInStep β))(h:∀ a b,TT P W (f a b))(r:Std.Legacy.Range)(b:β):TT P W (forIn r b f):=by
 rw [Std.Legacy.Range.forIn_eq_forIn_range'];exact a2H f h _ _
theorem c1X (ts:Array TypeId)(t:TypeId)(vs:Array Value):TT P W (Builtin.len_ ts t vs):=by
 unfold Builtin.len_
 repeat' first|exact E9 _ _|exact trivial|exact n9 _|exact i5 _|exact d6 _|exact g7 _|exact j4|exact g5 _|exact d8 _|exact i7 _|exact g6 _|exact p7 _|exact s7 _ _ _|exact i8 _|exact j5 _ _|exact m7 _ _|exact i6 _|exact d9 _|exact p9 _|exact k8 _|exact p6 _|exact p5 _|((with_reducible refine m9 ?_ ?_ ?_);(exact λ_ _=>.inl rfl);(exact λ_ _=>.inl rfl))|exact n7 _|exact k9 _ _|exact s4 _|(refine p8 ?_ ?_)|(intro _)|(refine A7 ?_ ?_)|split|dsimp only
theorem c1Y (ts:Array TypeId)(t:TypeId)(vs:Array Value):TT P W (Builtin.cap_ ts t vs):=by
 unfold Builtin.cap_
 repeat' first|exact E9 _ _|exact trivial|exact n9 _|exact i5 _|exact d6 _|exact g7 _|exact j4|exact g5 _|exact d8 _|exact i7 _|exact g6 _|exact p7 _|exact s7 _ _ _|exact i8 _|exact j5 _ _|exact m7 _ _|exact i6 _|exact d9 _|exact p9 _|exact k8 _|exact p6 _|exact p5 _|((with_reducible refine m9 ?_ ?_ ?_);(exact λ_ _=>.inl rfl);(exact λ_ _=>.inl rfl))|exact n7 _|exact k9 _ _|exact s4 _|(refine p8 ?_ ?_)|(intro _)|(refine A7 ?_ ?_)|split|dsimp only
theorem a7n (r:Nat):TT P W (numberAt r):=by
 unfold numberAt
 repeat' first|exact E9 _ _|exact trivial|exact n9 _|exact i5 _|exact d6 _|exact g7 _|exact j4|exact g5 _|exact d8 _|exact i7 _|exact g6 _|exact p7 _|exact s7 _ _ _|exact i8 _|exact j5 _ _|exact m7 _ _|exact i6 _|exact d9 _|exact p9 _|exact k8 _|exact p6 _|exact p5 _|((with_reducible refine m9 ?_ ?_ ?_);(exact λ_ _=>.inl rfl);(exact λ_ _=>.inl rfl))|exact n7 _|exact k9 _ _|exact s4 _|(refine p8 ?_ ?_)|(intro _)|(refine A7 ?_ ?_)|split|dsimp only
theorem a0V (n:Addr):TT P W (behindNumber n):=by
 unfold behindNumber
 repeat' first|exact E9 _ _|exact trivial|exact n9 _|exact i5 _|exact d6 _|exact g7 _|exact j4|exact g5 _|exact d8 _|exact i7 _|exact g6 _|exact p7 _|exact s7 _ _ _|exact i8 _|exact j5 _ _|exact m7 _ _|exact i6 _|exact d9 _|exact p9 _|exact k8 _|exact p6 _|exact p5 _|((with_reducible refine m9 ?_ ?_ ?_);(exact λ_ _=>.inl rfl);(exact λ_ _=>.inl rfl))|exact n7 _|exact k9 _ _|exact s4 _|exact a7n _|(refine p8 ?_ ?_)|(intro _)|(refine A7 ?_ ?_)|split|dsimp only
theorem b8p (a:Addr):TT P W (noView a):=by
 unfold noView
 repeat' first|exact E9 _ _|exact trivial|exact n9 _|exact i5 _|exact d6 _|exact g7 _|exact j4|exact g5 _|exact d8 _|exact i7 _|exact g6 _|exact p7 _|exact s7 _ _ _|exact i8 _|exact j5 _ _|exact m7 _ _|exact i6 _|exact d9 _|exact p9 _|exact k8 _|exact p6 _|exact p5 _|((with_reducible refine m9 ?_ ?_ ?_);(exact λ_ _=>.inl rfl);(exact λ_ _=>.inl rfl))|exact n7 _|exact k9 _ _|exact s4 _|((with_reducible refine a8w ?_ ?_);(exact λ_=>trivial))|(refine p8 ?_ ?_)|(intro _)|(refine A7 ?_ ?_)|split|dsimp only
theorem a4F (a:Addr):TT P W (byteOf a):=by
 unfold byteOf
 repeat' first|exact E9 _ _|exact trivial|exact n9 _|exact i5 _|exact d6 _|exact g7 _|exact j4|exact g5 _|exact d8 _|exact i7 _|exact g6 _|exact p7 _|exact s7 _ _ _|exact i8 _|exact j5 _ _|exact m7 _ _|exact i6 _|exact d9 _|exact p9 _|exact k8 _|exact p6 _|exact p5 _|((with_reducible refine m9 ?_ ?_ ?_);(exact λ_ _=>.inl rfl);(exact λ_ _=>.inl rfl))|exact n7 _|exact k9 _ _|exact s4 _|exact b8p _|(refine p8 ?_ ?_)|(intro _)|(refine A7 ?_ ?_)|split|dsimp only
theorem b8q (a:Addr)(c b:Nat):TT P W (partAt a c b):=by
 unfold partAt
 repeat' first|exact E9 _ _|exact trivial|exact n9 _|exact i5 _|exact d6 _|exact g7 _|exact j4|exact g5 _|exact d8 _|exact i7 _|exact g6 _|exact p7 _|exact s7 _ _ _|exact i8 _|exact j5 _ _|exact m7 _ _|exact i6 _|exact d9 _|exact p9 _|exact k8 _|exact p6 _|exact p5 _|((with_reducible refine m9 ?_ ?_ ?_);(exact λ_ _=>.inl rfl);(exact λ_ _=>.inl rfl))|exact n7 _|exact k9 _ _|exact s4 _|exact a4F _|(refine p8 ?_ ?_)|(intro _)|(refine A7 ?_ ?_)|split|dsimp only
theorem a4G (a:Addr)(f:Field):TT P W (fieldPlace a f):=by
 unfold fieldPlace
 repeat' first|exact E9 _ _|exact trivial|exact n9 _|exact i5 _|exact d6 _|exact g7 _|exact j4|exact g5 _|exact d8 _|exact i7 _|exact g6 _|exact p7 _|exact s7 _ _ _|exact i8 _|exact j5 _ _|exact m7 _ _|exact i6 _|exact d9 _|exact p9 _|exact k8 _|exact p6 _|exact p5 _|((with_reducible refine m9 ?_ ?_ ?_);(exact λ_ _=>.inl rfl);(exact λ_ _=>.inl rfl))|exact n7 _|exact k9 _ _|exact s4 _|exact b8q _ _ _|(refine p8 ?_ ?_)|(intro _)|(refine A7 ?_ ?_)|split|dsimp only
theorem b5u (s:TypeId)(v:Value)(i:Nat):TT P W (Instr.fieldAt s v i):=by
 unfold Instr.fieldAt
 repeat' first|exact E9 _ _|exact trivial|exact n9 _|exact i5 _|exact d6 _|exact g7 _|exact j4|exact g5 _|exact d8 _|exact i7 _|exact g6 _|exact p7 _|exact s7 _ _ _|exact i8 _|exact j5 _ _|exact m7 _ _|exact i6 _|exact d9 _|exact p9 _|exact k8 _|exact p6 _|exact p5 _|((with_reducible refine m9 ?_ ?_ ?_);(exact λ_ _=>.inl rfl);(exact λ_ _=>.inl rfl))|exact n7 _|exact k9 _ _|exact s4 _|exact a4G _ _|(refine p8 ?_ ?_)|(intro _)|(refine A7 ?_ ?_)|split|dsimp only
theorem b9X (t:TypeId)(ps:Array (Nat × Value)):TT P W (Instr.build t ps):=by
 unfold Instr.build
 repeat' first|exact E9 _ _|exact trivial|exact n9 _|exact i5 _|exact d6 _|exact g7 _|exact j4|exact g5 _|exact d8 _|exact i7 _|exact g6 _|exact p7 _|exact s7 _ _ _|exact i8 _|exact j5 _ _|exact m7 _ _|exact i6 _|exact d9 _|exact p9 _|exact k8 _|exact p6 _|exact p5 _|((with_reducible refine m9 ?_ ?_ ?_);(exact λ_ _=>.inl rfl);(exact λ_ _=>.inl rfl))|exact n7 _|exact k9 _ _|exact s4 _|(refine b8o _ ?_ _)|(refine p8 ?_ ?_)|(intro _)|(refine A7 ?_ ?_)|split|dsimp only
theorem a9o (t:TypeId)(n:Nat)(ps:Array (Nat × Value)):TT P W (Instr.buildSlice t n ps):=by
 unfold Instr.buildSlice
 repeat' first|exact E9 _ _|exact trivial|exact n9 _|exact i5 _|exact d6 _|exact g7 _|exact j4|exact g5 _|exact d8 _|exact i7 _|exact g6 _|exact p7 _|exact s7 _ _ _|exact i8 _|exact j5 _ _|exact m7 _ _|exact i6 _|exact d9 _|exact p9 _|exact k8 _|exact p6 _|exact p5 _|((with_reducible refine m9 ?_ ?_ ?_);(exact λ_ _=>.inl rfl);(exact λ_ _=>.inl rfl))|exact n7 _|exact k9 _ _|exact s4 _|(refine p8 ?_ ?_)|(intro _)|(refine A7 ?_ ?_)|split|dsimp only
theorem a5s (ts:Array TypeId)(t:TypeId)(vs:Array Value):TT P W (Builtin.unsafeAdd_ ts t vs):=by
 unfold Builtin.unsafeAdd_;rcases vs with ⟨_|⟨x,_|⟨y,_|⟨z,l⟩⟩⟩⟩<;>first|exact i5 _|skip
 cases x<;>first|exact i5 _|skip
 dsimp only
 repeat' first|exact E9 _ _|exact trivial|exact n9 _|exact i5 _|exact d6 _|exact g7 _|exact j4|exact g5 _|exact d8 _|exact i7 _|exact g6 _|exact p7 _|exact s7 _ _ _|exact i8 _|exact j5 _ _|exact m7 _ _|exact i6 _|exact d9 _|exact p9 _|exact k8 _|exact p6 _|exact p5 _|((with_reducible refine m9 ?_ ?_ ?_);(exact λ_ _=>.inl rfl);(exact λ_ _=>.inl rfl))|exact n7 _|exact k9 _ _|exact s4 _|((with_reducible refine a8w ?_ ?_);(exact λ_=>trivial))|(refine p8 ?_ ?_)|(intro _)|(refine A7 ?_ ?_)|split|dsimp only
theorem b2v (a:Addr)(b:Bool):TT P W (asNumber a b):=by
 unfold asNumber
 repeat' first|exact E9 _ _|exact trivial|exact n9 _|exact i5 _|exact d6 _|exact g7 _|exact j4|exact g5 _|exact d8 _|exact i7 _|exact g6 _|exact p7 _|exact s7 _ _ _|exact i8 _|exact j5 _ _|exact m7 _ _|exact i6 _|exact d9 _|exact p9 _|exact k8 _|exact p6 _|exact p5 _|((with_reducible refine m9 ?_ ?_ ?_);(exact λ_ _=>.inl rfl);(exact λ_ _=>.inl rfl))|exact n7 _|exact k9 _ _|exact s4 _|exact b0U _|(refine p8 ?_ ?_)|(intro _)|(refine A7 ?_ ?_)|split|dsimp only
theorem a7K (t:TypeId)(x y:Value):TT P W (movedNumber t x y):=by
 unfold movedNumber
 repeat' first|exact E9 _ _|exact trivial|exact n9 _|exact i5 _|exact d6 _|exact g7 _|exact j4|exact g5 _|exact d8 _|exact i7 _|exact g6 _|exact p7 _|exact s7 _ _ _|exact i8 _|exact j5 _ _|exact m7 _ _|exact i6 _|exact d9 _|exact p9 _|exact k8 _|exact p6 _|exact p5 _|((with_reducible refine m9 ?_ ?_ ?_);(exact λ_ _=>.inl rfl);(exact λ_ _=>.inl rfl))|exact n7 _|exact k9 _ _|exact s4 _|exact a5s _ _ _|exact a0V _|exact b2v _ _|(refine p8 ?_ ?_)|(intro _)|(refine A7 ?_ ?_)|split|dsimp only
theorem a7o (t:TypeId)(x y:Value):TT P W (movedPointer t x y):=by
 unfold movedPointer
 repeat' first|exact E9 _ _|exact trivial|exact n9 _|exact i5 _|exact d6 _|exact g7 _|exact j4|exact g5 _|exact d8 _|exact i7 _|exact g6 _|exact p7 _|exact s7 _ _ _|exact i8 _|exact j5 _ _|exact m7 _ _|exact i6 _|exact d9 _|exact p9 _|exact k8 _|exact p6 _|exact p5 _|((with_reducible refine m9 ?_ ?_ ?_);(exact λ_ _=>.inl rfl);(exact λ_ _=>.inl rfl))|exact n7 _|exact k9 _ _|exact s4 _|exact a5s _ _ _|exact a7n _|(refine p8 ?_ ?_)|(intro _)|(refine A7 ?_ ?_)|split|dsimp only
theorem a5t (a b:Addr):TT P W (Op.twoPlaces a b):=by
 unfold Op.twoPlaces
 repeat' first|exact E9 _ _|exact trivial|exact n9 _|exact i5 _|exact d6 _|exact g7 _|exact j4|exact g5 _|exact d8 _|exact i7 _|exact g6 _|exact p7 _|exact s7 _ _ _|exact i8 _|exact j5 _ _|exact m7 _ _|exact i6 _|exact d9 _|exact p9 _|exact k8 _|exact p6 _|exact p5 _|((with_reducible refine m9 ?_ ?_ ?_);(exact λ_ _=>.inl rfl);(exact λ_ _=>.inl rfl))|exact n7 _|exact k9 _ _|exact s4 _|exact a4F _|(refine p8 ?_ ?_)|(intro _)|(refine A7 ?_ ?_)|split|dsimp only
theorem b5v (k:IntKind)(a b:Addr):TT P W (Op.addrSub k a b):=by
 unfold Op.addrSub
 repeat' first|exact E9 _ _|exact trivial|exact n9 _|exact i5 _|exact d6 _|exact g7 _|exact j4|exact g5 _|exact d8 _|exact i7 _|exact g6 _|exact p7 _|exact s7 _ _ _|exact i8 _|exact j5 _ _|exact m7 _ _|exact i6 _|exact d9 _|exact p9 _|exact k8 _|exact p6 _|exact p5 _|((with_reducible refine m9 ?_ ?_ ?_);(exact λ_ _=>.inl rfl);(exact λ_ _=>.inl rfl))|exact n7 _|exact k9 _ _|exact s4 _|exact a5t _ _|(refine p8 ?_ ?_)|(intro _)|(refine A7 ?_ ?_)|split|dsimp only
theorem b5w (op:BinOp)(a b:Addr):TT P W (Op.addrCmp op a b):=by
 unfold Op.addrCmp
 repeat' first|exact E9 _ _|exact trivial|exact n9 _|exact i5 _|exact d6 _|exact g7 _|exact j4|exact g5 _|exact d8 _|exact i7 _|exact g6 _|exact p7 _|exact s7 _ _ _|exact i8 _|exact j5 _ _|exact m7 _ _|exact i6 _|exact d9 _|exact p9 _|exact k8 _|exact p6 _|exact p5 _|((with_reducible refine m9 ?_ ?_ ?_);(exact λ_ _=>.inl rfl);(exact λ_ _=>.inl rfl))|exact n7 _|exact k9 _ _|exact s4 _|exact a5t _ _|(refine p8 ?_ ?_)|(intro _)|(refine A7 ?_ ?_)|split|dsimp only
theorem b5x (k:IntKind)(a:Addr)(n:Int):TT P W (Op.addrMod k a n):=by
 unfold Op.addrMod
 repeat' first|exact E9 _ _|exact trivial|exact n9 _|exact i5 _|exact d6 _|exact g7 _|exact j4|exact g5 _|exact d8 _|exact i7 _|exact g6 _|exact p7 _|exact s7 _ _ _|exact i8 _|exact j5 _ _|exact m7 _ _|exact i6 _|exact d9 _|exact p9 _|exact k8 _|exact p6 _|exact p5 _|((with_reducible refine m9 ?_ ?_ ?_);(exact λ_ _=>.inl rfl);(exact λ_ _=>.inl rfl))|exact n7 _|exact k9 _ _|exact s4 _|exact a4F _|(refine p8 ?_ ?_)|(intro _)|(refine A7 ?_ ?_)|split|dsimp only
theorem a7p (op:BinOp)(k:IntKind)(x y:Int):TT P W (Op.intArith op k x y):=by
 unfold Op.intArith
 repeat' first|exact E9 _ _|exact trivial|exact n9 _|exact i5 _|exact d6 _|exact g7 _|exact j4|exact g5 _|exact d8 _|exact i7 _|exact g6 _|exact p7 _|exact s7 _ _ _|exact i8 _|exact j5 _ _|exact m7 _ _|exact i6 _|exact d9 _|exact p9 _|exact k8 _|exact p6 _|exact p5 _|((with_reducible refine m9 ?_ ?_ ?_);(exact λ_ _=>.inl rfl);(exact λ_ _=>.inl rfl))|exact n7 _|exact k9 _ _|exact s4 _|(refine p8 ?_ ?_)|(intro _)|(refine A7 ?_ ?_)|split|dsimp only
theorem b8r (op:BinOp)(k:IntKind)(x y:Int):TT P W (Op.intDiv op k x y):=by
 unfold Op.intDiv
 repeat' first|exact E9 _ _|exact trivial|exact n9 _|exact i5 _|exact d6 _|exact g7 _|exact j4|exact g5 _|exact d8 _|exact i7 _|exact g6 _|exact p7 _|exact s7 _ _ _|exact i8 _|exact j5 _ _|exact m7 _ _|exact i6 _|exact d9 _|exact p9 _|exact k8 _|exact p6 _|exact p5 _|((with_reducible refine m9 ?_ ?_ ?_);(exact λ_ _=>.inl rfl);(exact λ_ _=>.inl rfl))|exact n7 _|exact k9 _ _|exact s4 _|(refine p8 ?_ ?_)|(intro _)|(refine A7 ?_ ?_)|split|dsimp only
theorem a8x (op:BinOp)(k:IntKind)(x y:Int):TT P W (Op.intBits op k x y):=by
 unfold Op.intBits
 repeat' first|exact E9 _ _|exact trivial|exact n9 _|exact i5 _|exact d6 _|exact g7 _|exact j4|exact g5 _|exact d8 _|exact i7 _|exact g6 _|exact p7 _|exact s7 _ _ _|exact i8 _|exact j5 _ _|exact m7 _ _|exact i6 _|exact d9 _|exact p9 _|exact k8 _|exact p6 _|exact p5 _|((with_reducible refine m9 ?_ ?_ ?_);(exact λ_ _=>.inl rfl);(exact λ_ _=>.inl rfl))|exact n7 _|exact k9 _ _|exact s4 _|(refine p8 ?_ ?_)|(intro _)|(refine A7 ?_ ?_)|split|dsimp only
theorem b8s (op:BinOp)(x y:Int):TT P W (Op.intCmp op x y):=by
 unfold Op.intCmp
 repeat' first|exact E9 _ _|exact trivial|exact n9 _|exact i5 _|exact d6 _|exact g7 _|exact j4|exact g5 _|exact d8 _|exact i7 _|exact g6 _|exact p7 _|exact s7 _ _ _|exact i8 _|exact j5 _ _|exact m7 _ _|exact i6 _|exact d9 _|exact p9 _|exact k8 _|exact p6 _|exact p5 _|((with_reducible refine m9 ?_ ?_ ?_);(exact λ_ _=>.inl rfl);(exact λ_ _=>.inl rfl))|exact n7 _|exact k9 _ _|exact s4 _|(refine p8 ?_ ?_)|(intro _)|(refine A7 ?_ ?_)|split|dsimp only
theorem b9Y (op:BinOp)(k:IntKind)(x:Int)(k':IntKind)(y:Int):TT P W (Op.shift op k x k' y):=by
 unfold Op.shift
 repeat' first|exact E9 _ _|exact trivial|exact n9 _|exact i5 _|exact d6 _|exact g7 _|exact j4|exact g5 _|exact d8 _|exact i7 _|exact g6 _|exact p7 _|exact s7 _ _ _|exact i8 _|exact j5 _ _|exact m7 _ _|exact i6 _|exact d9 _|exact p9 _|exact k8 _|exact p6 _|exact p5 _|((with_reducible refine m9 ?_ ?_ ?_);(exact λ_ _=>.inl rfl);(exact λ_ _=>.inl rfl))|exact n7 _|exact k9 _ _|exact s4 _|(refine p8 ?_ ?_)|(intro _)|(refine A7 ?_ ?_)|split|dsimp only
theorem a4H (op:BinOp)(k:FloatKind)(x y:Nat):TT P W (Op.floatArith op k x y):=by
 unfold Op.floatArith
 repeat' first|exact E9 _ _|exact trivial|exact n9 _|exact i5 _|exact d6 _|exact g7 _|exact j4|exact g5 _|exact d8 _|exact i7 _|exact g6 _|exact p7 _|exact s7 _ _ _|exact i8 _|exact j5 _ _|exact m7 _ _|exact i6 _|exact d9 _|exact p9 _|exact k8 _|exact p6 _|exact p5 _|((with_reducible refine m9 ?_ ?_ ?_);(exact λ_ _=>.inl rfl);(exact λ_ _=>.inl rfl))|exact n7 _|exact k9 _ _|exact s4 _|(refine p8 ?_ ?_)|(intro _)|(refine A7 ?_ ?_)|split|dsimp only
theorem a7q (op:BinOp)(k:FloatKind)(x y:Nat):TT P W (Op.floatCmp op k x y):=by
 unfold Op.floatCmp
 repeat' first|exact E9 _ _|exact trivial|exact n9 _|exact i5 _|exact d6 _|exact g7 _|exact j4|exact g5 _|exact d8 _|exact i7 _|exact g6 _|exact p7 _|exact s7 _ _ _|exact i8 _|exact j5 _ _|exact m7 _ _|exact i6 _|exact d9 _|exact p9 _|exact k8 _|exact p6 _|exact p5 _|((with_reducible refine m9 ?_ ?_ ?_);(exact λ_ _=>.inl rfl);(exact λ_ _=>.inl rfl))|exact n7 _|exact k9 _ _|exact s4 _|(refine p8 ?_ ?_)|(intro _)|(refine A7 ?_ ?_)|split|dsimp only
theorem b2w (op:BinOp)(x y:ByteArray):TT P W (Op.stringOp op x y):=by
 unfold Op.stringOp
 repeat' first|exact E9 _ _|exact trivial|exact n9 _|exact i5 _|exact d6 _|exact g7 _|exact j4|exact g5 _|exact d8 _|exact i7 _|exact g6 _|exact p7 _|exact s7 _ _ _|exact i8 _|exact j5 _ _|exact m7 _ _|exact i6 _|exact d9 _|exact p9 _|exact k8 _|exact p6 _|exact p5 _|((with_reducible refine m9 ?_ ?_ ?_);(exact λ_ _=>.inl rfl);(exact λ_ _=>.inl rfl))|exact n7 _|exact k9 _ _|exact s4 _|(refine p8 ?_ ?_)|(intro _)|(refine A7 ?_ ?_)|split|dsimp only
theorem b2x (t:TypeId)(x:Value):TT P W (Instr.makeChan t x):=by
 unfold Instr.makeChan
 repeat' first|exact E9 _ _|exact trivial|exact n9 _|exact i5 _|exact d6 _|exact g7 _|exact j4|exact g5 _|exact d8 _|exact i7 _|exact g6 _|exact p7 _|exact s7 _ _ _|exact i8 _|exact j5 _ _|exact m7 _ _|exact i6 _|exact d9 _|exact p9 _|exact k8 _|exact p6 _|exact p5 _|((with_reducible refine m9 ?_ ?_ ?_);(exact λ_ _=>.inl rfl);(exact λ_ _=>.inl rfl))|exact n7 _|exact k9 _ _|exact s4 _|exact b0U _|(refine p8 ?_ ?_)|(intro _)|(refine A7 ?_ ?_)|split|dsimp only
theorem b9Z (op:UnOp)(x:Value):TT P W (Op.unary op x):=by
 unfold Op.unary
 repeat' first|exact E9 _ _|exact trivial|exact n9 _|exact i5 _|exact d6 _|exact g7 _|exact j4|exact g5 _|exact d8 _|exact i7 _|exact g6 _|exact p7 _|exact s7 _ _ _|exact i8 _|exact j5 _ _|exact m7 _ _|exact i6 _|exact d9 _|exact p9 _|exact k8 _|exact p6 _|exact p5 _|((with_reducible refine m9 ?_ ?_ ?_);(exact λ_ _=>.inl rfl);(exact λ_ _=>.inl rfl))|exact n7 _|exact k9 _ _|exact s4 _|exact a7p _ _ _ _|exact a8x _ _ _ _|(refine p8 ?_ ?_)|(intro _)|(refine A7 ?_ ?_)|split|dsimp only
variable {P:Program} {W:Prop}
theorem b8t (hW:W)(ts:Array TypeId)(t:TypeId)(vs:Array Value):TT P W (Builtin.append_ ts t vs):=by
 unfold Builtin.append_
 repeat' first|exact E9 _ _|exact n9 _|exact i5 _|exact d6 _|exact g7 _|exact g5 _|exact d8 _|exact i7 _|exact g6 _|exact i8 _|exact j5 _ _|exact p9 _|exact d9 _|exact n7 _|exact a1R hW _ _ _|exact a0k _ _|exact b3b _|exact a4D _ _ _|(refine U1 (a8G (a7J _ _ _ _ _) λb=>?_);cases b<;>first|exact trivial|exact ⟨by simp,by simp,trivial⟩)|(refine p8 ?_ ?_)|(intro _)|(refine A7 ?_ ?_)|split|dsimp only
end Go.Proofs.YtcgabodkegcpgaaDoor.Br
