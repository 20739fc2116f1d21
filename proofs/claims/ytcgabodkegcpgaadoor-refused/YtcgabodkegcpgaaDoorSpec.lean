/- What each call of the kernel does to its memory as plain numbers (Ker), as functions: no statement of the program is proved here. -/
import Derived.Test.YtcgabodkegcpgaaDoorKer
namespace Go.Proofs.YtcgabodkegcpgaaDoor
set_option linter.unusedVariables false

def Ker.become (K : Ker) (i : Nat) (kd ow : Int) : Ker := (((((K.setF i 0 kd).setF i 1 ow).setF i 2 0).setF i 3 0).setF i 4 0).setF i 5 0

/-- A call's outcome: the kernel behind it, its answer, its error. -/
structure Out where
  K : Ker
  n : Int
  e : Int

def Ker.page (K : Ker) (s p : Nat) : Int := K.S s (3 + p * 2)
def Ker.wr (K : Ker) (s p : Nat) : Bool := K.B s (4 + p * 2)
def Ker.file (K : Ker) (s x : Nat) : Int := K.S s (11 + x * 2)
def Ker.end (K : Ker) (s x : Nat) : Bool := K.B s (12 + x * 2)

def Ker.setPage (K : Ker) (s p : Nat) (f : Int) (b : Bool) : Ker := (K.setS s (3 + p * 2) f).setB s (4 + p * 2) b
def Ker.setFile (K : Ker) (s x : Nat) (d : Int) (b : Bool) : Ker := (K.setS s (11 + x * 2) d).setB s (12 + x * 2) b
def Ker.count (K : Ker) (d : Nat) (b : Bool) (more : Int) : Ker := if b then K.setD d 4 (K.D d 4 + more) else K.setD d 3 (K.D d 3 + more)
def Ker.openFile (K : Ker) (s x : Nat) (d : Nat) (b : Bool) : Ker := (K.setFile s x d b).count d b 1
def Ker.freePage (K : Ker) (s p : Nat) : Ker := (K.become (K.page s p).toNat 0 (-1)).setPage s p (-1) false
def Ker.noDuct (K : Ker) (d : Nat) (f : Int) : Ker := ((((K.setD d 0 f).setD d 1 0).setD d 2 0).setD d 3 0).setD d 4 0
def Ker.closeFile (K : Ker) (s x : Nat) : Ker :=
  let d := (K.file s x).toNat
  let K1 := (K.setFile s x (-1) false).count d (K.end s x) (-1)
  if K1.D d 3 = 0 ∧ K1.D d 4 = 0 then (K1.become (K1.D d 0).toNat 0 (-1)).noDuct d (-1) else K1

def kMap (K : Ker) (s p f : Nat) : Out :=
  if K.page s p ≠ -1 then ⟨K, 0, 6⟩ else if K.F f 0 ≠ 0 then ⟨K, 0, 5⟩ else ⟨(K.become f 2 s).setPage s p f true, 0, 0⟩
def kUnmap (K : Ker) (s p : Nat) : Out :=
  if K.page s p = -1 then ⟨K, 0, 6⟩ else ⟨K.freePage s p, 0, 0⟩
def kProtect (K : Ker) (s p : Nat) (v : Int) : Out :=
  if K.page s p = -1 then ⟨K, 0, 6⟩ else ⟨K.setB s (4 + p * 2) (v != 0), 0, 0⟩
def kLoad (K : Ker) (s p x : Nat) : Out :=
  if K.page s p = -1 then ⟨K, 0, 6⟩ else ⟨K, K.F (K.page s p).toNat (2 + x), 0⟩
def kStore (K : Ker) (s p x : Nat) (v : Int) : Out :=
  if K.wr s p = false then ⟨K, 0, 6⟩ else ⟨K.setF (K.page s p).toNat (2 + x) v, 0, 0⟩
def kPipe (K : Ker) (s n f x : Nat) : Out :=
  if K.D n 0 ≠ -1 then ⟨K, 0, 9⟩ else if K.F f 0 ≠ 0 then ⟨K, 0, 5⟩
  else if x = 3 ∨ K.file s x ≠ -1 ∨ K.file s (x + 1) ≠ -1 then ⟨K, 0, 8⟩
  else ⟨(((K.become f 3 (-1)).noDuct n f).openFile s x n false).openFile s (x + 1) n true, 0, 0⟩
def kDup (K : Ker) (s x t : Nat) : Out :=
  if K.file s x = -1 ∨ K.file s t ≠ -1 then ⟨K, 0, 8⟩ else ⟨K.openFile s t (K.file s x).toNat (K.end s x), 0, 0⟩
def kClose (K : Ker) (s x : Nat) : Out :=
  if K.file s x = -1 then ⟨K, 0, 8⟩ else ⟨K.closeFile s x, 0, 0⟩
def kWrite (K : Ker) (s x p j : Nat) : Out :=
  if K.file s x = -1 ∨ K.end s x = false then ⟨K, 0, 8⟩ else if K.page s p = -1 then ⟨K, 0, 6⟩
  else if K.D (K.file s x).toNat 3 = 0 then ⟨K, 0, 13⟩ else if K.D (K.file s x).toNat 2 = 4 then ⟨K, 0, 11⟩
  else ⟨(K.setF (K.D (K.file s x).toNat 0).toNat (2 + ((K.D (K.file s x).toNat 1 + K.D (K.file s x).toNat 2) % 4).toNat) (K.F (K.page s p).toNat (2 + j))).setD (K.file s x).toNat 2 (K.D (K.file s x).toNat 2 + 1), 0, 0⟩
def kRead (K : Ker) (s x p j : Nat) : Out :=
  if K.file s x = -1 ∨ K.end s x = true then ⟨K, 0, 8⟩ else if K.wr s p = false then ⟨K, 0, 6⟩
  else if K.D (K.file s x).toNat 2 = 0 ∧ K.D (K.file s x).toNat 4 = 0 then ⟨K, 0, 12⟩ else if K.D (K.file s x).toNat 2 = 0 then ⟨K, 0, 11⟩
  else ⟨((K.setF (K.page s p).toNat (2 + j) (K.F (K.D (K.file s x).toNat 0).toNat (2 + (K.D (K.file s x).toNat 1).toNat))).setD (K.file s x).toNat 1 ((K.D (K.file s x).toNat 1 + 1) % 4)).setD (K.file s x).toNat 2 (K.D (K.file s x).toNat 2 - 1), 0, 0⟩
def kSpawn (K : Ker) (s c f : Nat) : Out :=
  if K.S c 0 ≠ 0 then ⟨K, 0, 7⟩ else if K.F f 0 ≠ 0 then ⟨K, 0, 5⟩
  else ⟨(((K.become f 1 c).setS c 0 1).setS c 1 s).setS c 2 f, 0, 0⟩
def Ker.embryo (K : Ker) (s c : Nat) : Bool := K.S c 1 == (s : Int) && K.S c 0 == 1
def Ker.still (K : Ker) (s c : Nat) : Bool := K.S c 1 == (s : Int) && (K.S c 0 == 1 || K.S c 0 == 3)
def Ker.copyWords (K : Ker) (g h : Nat) : Ker := (((K.setF g 2 (K.F h 2)).setF g 3 (K.F h 3)).setF g 4 (K.F h 4)).setF g 5 (K.F h 5)
def kCopy (K : Ker) (s c p f : Nat) : Out :=
  if K.embryo s c = false then ⟨K, 0, 7⟩ else if K.page s p = -1 ∨ K.page c p ≠ -1 then ⟨K, 0, 6⟩ else if K.F f 0 ≠ 0 then ⟨K, 0, 5⟩
  else ⟨((K.become f 2 c).setPage c p f (K.wr s p)).copyWords f (K.page s p).toNat, 0, 0⟩
def kGive (K : Ker) (s c x t : Nat) : Out :=
  if K.embryo s c = false then ⟨K, 0, 7⟩ else if K.file s x = -1 ∨ K.file c t ≠ -1 then ⟨K, 0, 8⟩
  else ⟨K.openFile c t (K.file s x).toNat (K.end s x), 0, 0⟩
def kStart (K : Ker) (s c : Nat) : Out :=
  if K.embryo s c = false then ⟨K, 0, 7⟩ else ⟨K.setS c 0 2, 0, 0⟩
def Ker.orphans (K : Ker) (s : Nat) : Nat → Ker
  | 0 => K
  | n + 1 => if (K.orphans s n).S n 1 = s then (K.orphans s n).setS n 1 0 else K.orphans s n
def kExit (K : Ker) (s : Nat) (a : Int) : Out :=
  if s = 0 then ⟨K, 0, 7⟩ else ⟨((K.setS s 0 3).setS s 19 a).orphans s K.nS, 0, 0⟩
def kDrop (K : Ker) (s c p : Nat) : Out :=
  if K.still s c = false then ⟨K, 0, 7⟩ else if K.page c p = -1 then ⟨K, 0, 6⟩ else ⟨K.freePage c p, 0, 0⟩
def kShut (K : Ker) (s c x : Nat) : Out :=
  if K.still s c = false then ⟨K, 0, 7⟩ else if K.file c x = -1 then ⟨K, 0, 8⟩ else ⟨K.closeFile c x, 0, 0⟩
def Ker.noSlot (K : Ker) (c : Nat) : Ker :=
  { K with S := fun i j => if i = c then (if j = 0 ∨ j = 19 then 0 else -1) else K.S i j, B := fun i j => if i = c then false else K.B i j }
def kReap (K : Ker) (s c : Nat) : Out :=
  if K.still s c = false then ⟨K, 0, 7⟩
  else if K.page c 0 ≠ -1 ∨ K.page c 1 ≠ -1 ∨ K.page c 2 ≠ -1 ∨ K.page c 3 ≠ -1 then ⟨K, 0, 6⟩
  else if K.file c 0 ≠ -1 ∨ K.file c 1 ≠ -1 ∨ K.file c 2 ≠ -1 ∨ K.file c 3 ≠ -1 then ⟨K, 0, 8⟩
  else ⟨(K.become (K.S c 2).toNat 0 (-1)).noSlot c, K.S c 19, 0⟩

/-- What the calls' table says: is there a call of this number, and what do its arguments number? -/
def there (call : Nat) : Bool := call != 0
def argKinds : Nat → List Int
  | 2 => [4, 1, 0] | 3 => [4, 0, 0] | 4 => [4, 0, 0] | 5 => [2, 1, 0] | 6 => [2, 4, 1] | 7 => [2, 5, 5] | 8 => [2, 0, 0] | 10 => [2, 4, 0] | 11 => [2, 5, 0] | 12 => [2, 0, 0] | 13 => [3, 1, 5]
  | 14 => [5, 5, 0] | 15 => [5, 0, 0] | 16 => [5, 4, 6] | 17 => [5, 4, 6] | 18 => [4, 6, 0] | 19 => [4, 6, 0] | _ => [0, 0, 0]
def howMany (K : Ker) (t : Int) : Int := if t = 1 then K.nF else if t = 2 then K.nS else if t = 3 then K.nD else if t = 4 then 4 else if t = 5 then 4 else if t = 6 then 4 else 0
def fits (K : Ker) (t a : Int) : Bool := t == 0 || (decide (0 ≤ a) && decide (a < howMany K t))
def kDo (K : Ker) (s call : Nat) (a b c : Int) : Out :=
  match call with
  | 1 => ⟨K, 0, 0⟩
  | 2 => kMap K s a.toNat b.toNat
  | 3 => kUnmap K s a.toNat
  | 4 => kProtect K s a.toNat b
  | 5 => kSpawn K s a.toNat b.toNat
  | 6 => kCopy K s a.toNat b.toNat c.toNat
  | 7 => kGive K s a.toNat b.toNat c.toNat
  | 8 => kStart K s a.toNat
  | 9 => kExit K s a
  | 10 => kDrop K s a.toNat b.toNat
  | 11 => kShut K s a.toNat b.toNat
  | 12 => kReap K s a.toNat
  | 13 => kPipe K s a.toNat b.toNat c.toNat
  | 14 => kDup K s a.toNat b.toNat
  | 15 => kClose K s a.toNat
  | 16 => kWrite K s a.toNat b.toNat c.toNat
  | 17 => kRead K s a.toNat b.toNat c.toNat
  | 18 => kLoad K s a.toNat b.toNat
  | 19 => kStore K s a.toNat b.toNat c
  | _ => ⟨K, 0, 2⟩
def kCall (K : Ker) (slot call a b c : Int) : Out :=
  if ¬ (0 ≤ call ∧ call < 20) ∨ call = 0 then ⟨K, 0, 2⟩
  else if ¬ (0 ≤ slot ∧ slot < K.nS) ∨ K.S slot.toNat 0 ≠ 2 then ⟨K, 0, 3⟩
  else if fits K ((argKinds call.toNat).getD 0 0) a = false ∨ fits K ((argKinds call.toNat).getD 1 0) b = false ∨ fits K ((argKinds call.toNat).getD 2 0) c = false then ⟨K, 0, 4⟩
  else kDo K slot.toNat call.toNat a b c

/-- What the calls rely on: numbers that are held are ones; what is written has a frame; an end has a pipe that is there. -/
structure Good (K : Ker) : Prop where
  page : ∀ i p, i < K.nS → p < 4 → K.page i p = -1 ∨ (0 ≤ K.page i p ∧ K.page i p < K.nF)
  wr : ∀ i p, i < K.nS → p < 4 → K.wr i p = true → K.page i p ≠ -1
  file : ∀ i x, i < K.nS → x < 4 → K.file i x = -1 ∨ (0 ≤ K.file i x ∧ K.file i x < K.nD ∧ 0 ≤ K.D (K.file i x).toNat 0)
  duct : ∀ d, d < K.nD → K.D d 0 = -1 ∨ (0 ≤ K.D d 0 ∧ K.D d 0 < K.nF)
  head : ∀ d, d < K.nD → 0 ≤ K.D d 1 ∧ K.D d 1 < 4
  cnt : ∀ d, d < K.nD → 0 ≤ K.D d 2 ∧ K.D d 2 ≤ 4
  rd : ∀ d, d < K.nD → 0 ≤ K.D d 3 ∧ K.D d 3 ≤ 24
  wt : ∀ d, d < K.nD → 0 ≤ K.D d 4 ∧ K.D d 4 ≤ 24
  tab : ∀ i, i < K.nS → K.S i 0 ≠ 0 → 0 ≤ K.S i 2 ∧ K.S i 2 < K.nF
end Go.Proofs.YtcgabodkegcpgaaDoor
