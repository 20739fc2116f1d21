/- Plain facts on the kernel's numbers: files are counted right, and every call keeps the books good. -/
import Derived.Test.YtcgabodkegcpgaaDoorInv1
namespace Go.Proofs.YtcgabodkegcpgaaDoor
set_option linter.unusedVariables false

/-- How many of the first n numbers have a property. -/
def countTo (p : Nat → Bool) : Nat → Nat
  | 0 => 0
  | n + 1 => countTo p n + if p n then 1 else 0
theorem countTo_le (p : Nat → Bool) : ∀ n, countTo p n ≤ n
  | 0 => Nat.le_refl _
  | n + 1 => by have := countTo_le p n; unfold countTo; split <;> omega
theorem countTo_congr {p q : Nat → Bool} : ∀ n, (∀ j, j < n → p j = q j) → countTo p n = countTo q n
  | 0, _ => rfl
  | n + 1, h => by unfold countTo; rw [countTo_congr n (fun j hj => h j (by omega)), h n (by omega)]
/-- One number's property turns. -/
theorem countTo_turn {p q : Nat → Bool} (k : Nat) : ∀ n, k < n → (∀ j, j < n → j ≠ k → p j = q j) → countTo q n + (if p k then 1 else 0) = countTo p n + (if q k then 1 else 0)
  | 0, h, _ => by omega
  | n + 1, h, e => by
    unfold countTo
    by_cases hk : k = n
    · subst hk
      rw [countTo_congr k (fun j hj => e j (by omega) (by omega))]
      omega
    · have ih := countTo_turn k n (by omega) (fun j hj hne => e j (by omega) hne)
      rw [e n (by omega) (fun h => hk h.symm)]
      omega
theorem countTo_zero {p : Nat → Bool} : ∀ n, countTo p n = 0 → ∀ j, j < n → p j = false
  | 0, _, j, hj => by omega
  | n + 1, h, j, hj => by
    unfold countTo at h
    by_cases e : j = n
    · subst e
      cases hp : p j
      · rfl
      · rw [hp] at h; simp at h
    · exact countTo_zero n (by omega) j (by omega)

/-- How many files are this end of a pipe. -/
def Ker.isEnd (K : Ker) (d : Nat) (b : Bool) (j : Nat) : Bool := K.file (j / 4) (j % 4) == (d : Int) && K.end (j / 4) (j % 4) == b
def Ker.ends (K : Ker) (d : Nat) (b : Bool) : Nat := countTo (K.isEnd d b) (K.nS * 4)

structure Inv (K : Ker) : Prop where
  good : Good K
  hS : K.nS ≤ 6
  rds : ∀ d, d < K.nD → K.D d 3 = K.ends d false
  wts : ∀ d, d < K.nD → K.D d 4 = K.ends d true

/-- What the counts hang on: the files alone. -/
theorem ends_congr {K K' : Ker} (hn : K'.nS = K.nS) (h : ∀ i x, i < K.nS → x < 4 → K'.file i x = K.file i x ∧ K'.end i x = K.end i x) (d : Nat) (b : Bool) : K'.ends d b = K.ends d b := by
  unfold Ker.ends
  rw [hn]
  refine countTo_congr _ fun j hj => ?_
  unfold Ker.isEnd
  have hi : j / 4 < K.nS := by omega
  have hx : j % 4 < 4 := by omega
  rw [(h _ _ hi hx).1, (h _ _ hi hx).2]
/-- Where files and counts stand as they were, so do the books. -/
theorem Inv.of {K K' : Ker} (I : Inv K) (G : Good K') (hn : K'.nS = K.nS) (hd : K'.nD = K.nD) (h : ∀ i x, i < K.nS → x < 4 → K'.file i x = K.file i x ∧ K'.end i x = K.end i x)
    (hD : ∀ d, d < K.nD → K'.D d 3 = K.D d 3 ∧ K'.D d 4 = K.D d 4) : Inv K' := by
  refine ⟨G, by rw [hn]; exact I.hS, fun d hdn => ?_, fun d hdn => ?_⟩
  · rw [hd] at hdn; rw [(hD d hdn).1, I.rds d hdn, ends_congr hn h]
  · rw [hd] at hdn; rw [(hD d hdn).2, I.wts d hdn, ends_congr hn h]

theorem setFile_file (K : Ker) (s x : Nat) (d : Int) (b : Bool) (i y : Nat) (hy : y < 4) (hx : x < 4) : (K.setFile s x d b).file i y = if i = s ∧ y = x then d else K.file i y := by
  show upd K.S s (11 + x * 2) d i (11 + y * 2) = _
  unfold upd Ker.file
  by_cases e : i = s ∧ y = x
  · rw [if_pos e, if_pos (by omega)]
  · rw [if_neg e, if_neg (by omega)]
theorem setFile_end (K : Ker) (s x : Nat) (d : Int) (b : Bool) (i y : Nat) (hy : y < 4) (hx : x < 4) : (K.setFile s x d b).end i y = if i = s ∧ y = x then b else K.end i y := by
  show upd K.B s (12 + x * 2) b i (12 + y * 2) = _
  unfold upd Ker.end
  by_cases e : i = s ∧ y = x
  · rw [if_pos e, if_pos (by omega)]
  · rw [if_neg e, if_neg (by omega)]

/-- A file turns: the counts of the end that it was and of the one that it is. -/
theorem ends_setFile (K : Ker) (s x : Nat) (d' : Int) (b' : Bool) (hs : s < K.nS) (hx : x < 4) (d : Nat) (b : Bool) :
    (K.setFile s x d' b').ends d b + (if K.file s x = d ∧ K.end s x = b then 1 else 0) = K.ends d b + (if d' = d ∧ b' = b then 1 else 0) := by
  have h := countTo_turn (p := K.isEnd d b) (q := (K.setFile s x d' b').isEnd d b) (s * 4 + x) (K.nS * 4) (by omega) (fun j hj hne => by
    unfold Ker.isEnd
    have e : ¬ (j / 4 = s ∧ j % 4 = x) := by omega
    rw [setFile_file K s x d' b' _ _ (by omega) hx, setFile_end K s x d' b' _ _ (by omega) hx, if_neg e, if_neg e])
  have q1 : (s * 4 + x) / 4 = s := by omega
  have q2 : (s * 4 + x) % 4 = x := by omega
  have dec : ∀ (u v : Int) (f g : Bool), (u == v && f == g) = decide (u = v ∧ f = g) := fun u v f g => by
    rw [Bool.eq_iff_iff]; simp
  have p1 : K.isEnd d b (s * 4 + x) = decide (K.file s x = d ∧ K.end s x = b) := by
    unfold Ker.isEnd; rw [q1, q2]; exact dec _ _ _ _
  have p2 : (K.setFile s x d' b').isEnd d b (s * 4 + x) = decide (d' = d ∧ b' = b) := by
    unfold Ker.isEnd; rw [q1, q2, setFile_file K s x d' b' _ _ hx hx, setFile_end K s x d' b' _ _ hx hx, if_pos ⟨rfl, rfl⟩, if_pos ⟨rfl, rfl⟩]; exact dec _ _ _ _
  rw [p1, p2] at h
  simp only [decide_eq_true_eq] at h
  exact h

theorem Inv.bounds {K : Ker} (I : Inv K) {d : Nat} (b : Bool) : K.ends d b ≤ 24 := by
  have := countTo_le (K.isEnd d b) (K.nS * 4)
  have := I.hS
  unfold Ker.ends; omega
/-- Where a file is none, fewer than all are this end. -/
theorem Inv.room {K : Ker} (I : Inv K) {s x : Nat} (hs : s < K.nS) (hx : x < 4) (hf : K.file s x = -1) (d : Nat) (b : Bool) : K.ends d b < 24 := by
  have h := ends_setFile K s x d b hs hx d b
  rw [if_neg (by rw [hf]; omega), if_pos ⟨rfl, rfl⟩] at h
  have := countTo_le ((K.setFile s x d b).isEnd d b) (K.nS * 4)
  have e : (K.setFile s x d b).ends d b = countTo ((K.setFile s x d b).isEnd d b) (K.nS * 4) := rfl
  have := I.hS
  omega

theorem count_D (K : Ker) (d : Nat) (b : Bool) (m : Int) (i : Nat) : (K.count d b m).D i 3 = (if i = d ∧ b = false then K.D d 3 + m else K.D i 3) ∧ (K.count d b m).D i 4 = (if i = d ∧ b = true then K.D d 4 + m else K.D i 4) := by
  cases b
  · simp [Ker.count, Ker.setD, upd]
  · simp [Ker.count, Ker.setD, upd]
theorem count_sizes (K : Ker) (d : Nat) (b : Bool) (m : Int) : (K.count d b m).nF = K.nF ∧ (K.count d b m).nS = K.nS ∧ (K.count d b m).nD = K.nD ∧ (K.count d b m).S = K.S ∧ (K.count d b m).B = K.B ∧ (K.count d b m).F = K.F := by
  cases b <;> exact ⟨rfl, rfl, rfl, rfl, rfl, rfl⟩
theorem ends_count (K : Ker) (d : Nat) (b : Bool) (m : Int) (d' : Nat) (b' : Bool) : (K.count d b m).ends d' b' = K.ends d' b' := by
  cases b <;> rfl

theorem inv_openFile {K : Ker} (I : Inv K) {s x d : Nat} (b : Bool) (hs : s < K.nS) (hx : x < 4) (hd : d < K.nD) (h0 : 0 ≤ K.D d 0) (hf : K.file s x = -1) : Inv (K.openFile s x d b) := by
  have r3 := I.rds d hd
  have r4 := I.wts d hd
  have b3 := I.room hs hx hf d false
  have b4 := I.room hs hx hf d true
  have G := good_openFile I.good s x d b hx hd h0 (by omega) (by omega)
  have E : ∀ d' b', (K.openFile s x d b).ends d' b' = K.ends d' b' + (if d = d' ∧ b = b' then 1 else 0) := fun d' b' => by
    unfold Ker.openFile
    rw [ends_count]
    have h := ends_setFile K s x d b hs hx d' b'
    rw [if_neg (by rw [hf]; omega)] at h
    have e : ((d : Int) = (d' : Int) ∧ b = b') ↔ (d = d' ∧ b = b') := ⟨fun k => ⟨by omega, k.2⟩, fun k => ⟨by omega, k.2⟩⟩
    simp only [e] at h
    omega
  have sz := count_sizes (K.setFile s x d b) d b 1
  refine ⟨G, by show ((K.setFile s x d b).count d b 1).nS ≤ 6; rw [sz.2.1]; exact I.hS, fun d' hd' => ?_, fun d' hd' => ?_⟩
  · have hd2 : d' < K.nD := by have : d' < ((K.setFile s x d b).count d b 1).nD := hd'; rw [sz.2.2.1] at this; exact this
    rw [E d' false]
    show ((K.setFile s x d b).count d b 1).D d' 3 = _
    rw [(count_D _ d b 1 d').1]
    have := I.rds d' hd2
    show (if d' = d ∧ b = false then K.D d 3 + 1 else K.D d' 3) = _
    by_cases e : d' = d ∧ b = false
    · obtain ⟨rfl, rfl⟩ := e
      simp; omega
    · rw [if_neg e, if_neg (by intro h; exact e ⟨h.1.symm, h.2⟩)]; omega
  · have hd2 : d' < K.nD := by have : d' < ((K.setFile s x d b).count d b 1).nD := hd'; rw [sz.2.2.1] at this; exact this
    rw [E d' true]
    show ((K.setFile s x d b).count d b 1).D d' 4 = _
    rw [(count_D _ d b 1 d').2]
    have := I.wts d' hd2
    show (if d' = d ∧ b = true then K.D d 4 + 1 else K.D d' 4) = _
    by_cases e : d' = d ∧ b = true
    · obtain ⟨rfl, rfl⟩ := e
      simp; omega
    · rw [if_neg e, if_neg (by intro h; exact e ⟨h.1.symm, h.2⟩)]; omega
end Go.Proofs.YtcgabodkegcpgaaDoor
