/- The kernel's memory as plain numbers: what its cells hold (Ker), that a world holds it (Rep), and that a step leaves all other memory as it was (Keeps). No statement of the program is proved here. -/
import Derived.WalkKit
import Derived.Below
import Derived.Deep.QuietTactic
namespace Go.Proofs.YtcgabodkegcpgaaDoor
open Go.RowKit
set_option linter.unusedVariables false

/-- Frames (kind, owner, four words), processes (20 cells each; those of the columns isB are bools), pipes (5 cells each). -/
structure Ker where
  nF : Nat
  nS : Nat
  nD : Nat
  F : Nat → Nat → Int
  S : Nat → Nat → Int
  B : Nat → Nat → Bool
  D : Nat → Nat → Int

def upd {α : Type} (f : Nat → Nat → α) (i c : Nat) (v : α) : Nat → Nat → α := fun a b => if a = i ∧ b = c then v else f a b
theorem upd_same {α : Type} (f : Nat → Nat → α) (i c : Nat) (v : α) : upd f i c v i c = v := by simp [upd]
theorem upd_other {α : Type} (f : Nat → Nat → α) (i c : Nat) (v : α) (a b : Nat) (h : ¬ (a = i ∧ b = c)) : upd f i c v a b = f a b := by simp [upd, h]

def isB (c : Nat) : Prop := 4 ≤ c ∧ c ≤ 18 ∧ c % 2 = 0

def Ker.setF (K : Ker) (i c : Nat) (v : Int) : Ker := { K with F := upd K.F i c v }
def Ker.setS (K : Ker) (i c : Nat) (v : Int) : Ker := { K with S := upd K.S i c v }
def Ker.setB (K : Ker) (i c : Nat) (v : Bool) : Ker := { K with B := upd K.B i c v }
def Ker.setD (K : Ker) (i c : Nat) (v : Int) : Ker := { K with D := upd K.D i c v }

theorem Ker.setF_nF (K : Ker) (i c : Nat) (v : Int) : (K.setF i c v).nF = K.nF := rfl
theorem Ker.setF_nS (K : Ker) (i c : Nat) (v : Int) : (K.setF i c v).nS = K.nS := rfl
theorem Ker.setF_nD (K : Ker) (i c : Nat) (v : Int) : (K.setF i c v).nD = K.nD := rfl
theorem Ker.setS_nF (K : Ker) (i c : Nat) (v : Int) : (K.setS i c v).nF = K.nF := rfl
theorem Ker.setS_nS (K : Ker) (i c : Nat) (v : Int) : (K.setS i c v).nS = K.nS := rfl
theorem Ker.setS_nD (K : Ker) (i c : Nat) (v : Int) : (K.setS i c v).nD = K.nD := rfl
theorem Ker.setB_nF (K : Ker) (i c : Nat) (v : Bool) : (K.setB i c v).nF = K.nF := rfl
theorem Ker.setB_nS (K : Ker) (i c : Nat) (v : Bool) : (K.setB i c v).nS = K.nS := rfl
theorem Ker.setB_nD (K : Ker) (i c : Nat) (v : Bool) : (K.setB i c v).nD = K.nD := rfl
theorem Ker.setD_nF (K : Ker) (i c : Nat) (v : Int) : (K.setD i c v).nF = K.nF := rfl
theorem Ker.setD_nS (K : Ker) (i c : Nat) (v : Int) : (K.setD i c v).nS = K.nS := rfl
theorem Ker.setD_nD (K : Ker) (i c : Nat) (v : Int) : (K.setD i c v).nD = K.nD := rfl

/-- The world holds the kernel K: its struct is block bk, its three lists are the blocks bf, bs, bd. -/
structure Rep (w : World) (bk bf bs bd : Nat) (K : Ker) : Prop where
  k0 : w.cell? ⟨bk, 0, none⟩ = some (.slice (some ⟨bf, 0, none⟩) K.nF K.nF)
  k1 : w.cell? ⟨bk, 1, none⟩ = some (.slice (some ⟨bs, 0, none⟩) K.nS K.nS)
  k2 : w.cell? ⟨bk, 2, none⟩ = some (.slice (some ⟨bd, 0, none⟩) K.nD K.nD)
  f : ∀ i c, i < K.nF → c < 6 → w.cell? ⟨bf, i * 6 + c, none⟩ = some (.int .i64 (K.F i c))
  s : ∀ i c, i < K.nS → c < 20 → ¬ isB c → w.cell? ⟨bs, i * 20 + c, none⟩ = some (.int .i64 (K.S i c))
  b : ∀ i c, i < K.nS → isB c → w.cell? ⟨bs, i * 20 + c, none⟩ = some (.bool (K.B i c))
  d : ∀ i c, i < K.nD → c < 5 → w.cell? ⟨bd, i * 5 + c, none⟩ = some (.int .i64 (K.D i c))
  zf : ∀ o, w.frozen? ⟨bf, o, none⟩ = false
  zs : ∀ o, w.frozen? ⟨bs, o, none⟩ = false
  zd : ∀ o, w.frozen? ⟨bd, o, none⟩ = false
  lk : bk < w.heap.size
  lf : bf < w.heap.size
  ls : bs < w.heap.size
  ld : bd < w.heap.size
  kf : bk ≠ bf
  ks : bk ≠ bs
  kd : bk ≠ bd
  fs : bf ≠ bs
  fd : bf ≠ bd
  sd : bs ≠ bd
  hF : K.nF ≤ 32
  hS : K.nS ≤ 6
  hD : K.nD ≤ 4

section
variable {w : World} {bk bf bs bd : Nat} {K : Ker}

theorem size_setCell (w : World) (a : Addr) (v : Value) : (w.setCell a v).heap.size = w.heap.size := by simp [World.setCell]
theorem frozen_setCell (w : World) (a p : Addr) (v : Value) : (w.setCell a v).frozen? p = w.frozen? p := by
  unfold World.frozen? World.setCell
  simp only [Array.getElem?_modify]
  by_cases h : a.block = p.block
  · rw [if_pos h]
    cases hq : w.heap[p.block]? with
    | none => simp
    | some o => cases o <;> simp
  · rw [if_neg h]
theorem cell_set_other (w : World) {b o b' o' : Nat} (v : Value) (h : b' ≠ b ∨ o' ≠ o) : (w.setCell ⟨b, o, none⟩ v).cell? ⟨b', o', none⟩ = w.cell? ⟨b', o', none⟩ := by
  refine World.cell?_setCell_other w ⟨b, o, none⟩ ⟨b', o', none⟩ v ?_
  intro e
  cases e
  omega
theorem cell_set_same (w : World) {b o : Nat} {u : Value} (v : Value) (h : w.cell? ⟨b, o, none⟩ = some u) : (w.setCell ⟨b, o, none⟩ v).cell? ⟨b, o, none⟩ = some v := World.cell?_setCell_same w _ v h

theorem Rep.setF (R : Rep w bk bf bs bd K) {i c o : Nat} (hi : i < K.nF) (hc : c < 6) (ho : o = i * 6 + c) (v : Int) : Rep (w.setCell ⟨bf, o, none⟩ (.int .i64 v)) bk bf bs bd (K.setF i c v) := by
  subst ho
  have := R.kf; have := R.ks; have := R.kd; have := R.fs; have := R.fd; have := R.sd
  refine ⟨?_, ?_, ?_, ?_, ?_, ?_, ?_, ?_, ?_, ?_, ?_, ?_, ?_, ?_, R.kf, R.ks, R.kd, R.fs, R.fd, R.sd, R.hF, R.hS, R.hD⟩
  · rw [cell_set_other w _ (by omega)]; exact R.k0
  · rw [cell_set_other w _ (by omega)]; exact R.k1
  · rw [cell_set_other w _ (by omega)]; exact R.k2
  · intro a b ha hb
    by_cases e : a = i ∧ b = c
    · obtain ⟨rfl, rfl⟩ := e
      rw [cell_set_same w _ (R.f a b hi hc)]; simp [Ker.setF, upd]
    · rw [cell_set_other w _ (by omega), R.f a b ha hb]; simp [Ker.setF, upd, e]
  · intro a b ha hb hb'; rw [cell_set_other w _ (by omega)]; exact R.s a b ha hb hb'
  · intro a b ha hb; rw [cell_set_other w _ (by omega)]; exact R.b a b ha hb
  · intro a b ha hb; rw [cell_set_other w _ (by omega)]; exact R.d a b ha hb
  · intro o; rw [frozen_setCell]; exact R.zf o
  · intro o; rw [frozen_setCell]; exact R.zs o
  · intro o; rw [frozen_setCell]; exact R.zd o
  · rw [size_setCell]; exact R.lk
  · rw [size_setCell]; exact R.lf
  · rw [size_setCell]; exact R.ls
  · rw [size_setCell]; exact R.ld

theorem Rep.setS (R : Rep w bk bf bs bd K) {i c o : Nat} (hi : i < K.nS) (hc : c < 20) (hb : ¬ isB c) (ho : o = i * 20 + c) (v : Int) : Rep (w.setCell ⟨bs, o, none⟩ (.int .i64 v)) bk bf bs bd (K.setS i c v) := by
  subst ho
  have := R.kf; have := R.ks; have := R.kd; have := R.fs; have := R.fd; have := R.sd
  refine ⟨?_, ?_, ?_, ?_, ?_, ?_, ?_, ?_, ?_, ?_, ?_, ?_, ?_, ?_, R.kf, R.ks, R.kd, R.fs, R.fd, R.sd, R.hF, R.hS, R.hD⟩
  · rw [cell_set_other w _ (by omega)]; exact R.k0
  · rw [cell_set_other w _ (by omega)]; exact R.k1
  · rw [cell_set_other w _ (by omega)]; exact R.k2
  · intro a b ha hb; rw [cell_set_other w _ (by omega)]; exact R.f a b ha hb
  · intro a b ha hb' hb''
    by_cases e : a = i ∧ b = c
    · obtain ⟨rfl, rfl⟩ := e
      rw [cell_set_same w _ (R.s a b hi hc hb)]; simp [Ker.setS, upd]
    · rw [cell_set_other w _ (by omega), R.s a b ha hb' hb'']; simp [Ker.setS, upd, e]
  · intro a b ha hb'
    have : b < 20 := by unfold isB at hb'; omega
    have : b ≠ c := by rintro rfl; exact hb hb'
    rw [cell_set_other w _ (by omega)]; exact R.b a b ha hb'
  · intro a b ha hb; rw [cell_set_other w _ (by omega)]; exact R.d a b ha hb
  · intro o; rw [frozen_setCell]; exact R.zf o
  · intro o; rw [frozen_setCell]; exact R.zs o
  · intro o; rw [frozen_setCell]; exact R.zd o
  · rw [size_setCell]; exact R.lk
  · rw [size_setCell]; exact R.lf
  · rw [size_setCell]; exact R.ls
  · rw [size_setCell]; exact R.ld

theorem Rep.setB (R : Rep w bk bf bs bd K) {i c o : Nat} (hi : i < K.nS) (hb : isB c) (ho : o = i * 20 + c) (v : Bool) : Rep (w.setCell ⟨bs, o, none⟩ (.bool v)) bk bf bs bd (K.setB i c v) := by
  subst ho
  have := R.kf; have := R.ks; have := R.kd; have := R.fs; have := R.fd; have := R.sd
  have hc : c < 20 := by unfold isB at hb; omega
  refine ⟨?_, ?_, ?_, ?_, ?_, ?_, ?_, ?_, ?_, ?_, ?_, ?_, ?_, ?_, R.kf, R.ks, R.kd, R.fs, R.fd, R.sd, R.hF, R.hS, R.hD⟩
  · rw [cell_set_other w _ (by omega)]; exact R.k0
  · rw [cell_set_other w _ (by omega)]; exact R.k1
  · rw [cell_set_other w _ (by omega)]; exact R.k2
  · intro a b ha hb; rw [cell_set_other w _ (by omega)]; exact R.f a b ha hb
  · intro a b ha hb' hb''
    have : b ≠ c := by rintro rfl; exact hb'' hb
    rw [cell_set_other w _ (by omega)]; exact R.s a b ha hb' hb''
  · intro a b ha hb'
    have : b < 20 := by unfold isB at hb'; omega
    by_cases e : a = i ∧ b = c
    · obtain ⟨rfl, rfl⟩ := e
      rw [cell_set_same w _ (R.b a b hi hb)]; simp [Ker.setB, upd]
    · rw [cell_set_other w _ (by omega), R.b a b ha hb']; simp [Ker.setB, upd, e]
  · intro a b ha hb; rw [cell_set_other w _ (by omega)]; exact R.d a b ha hb
  · intro o; rw [frozen_setCell]; exact R.zf o
  · intro o; rw [frozen_setCell]; exact R.zs o
  · intro o; rw [frozen_setCell]; exact R.zd o
  · rw [size_setCell]; exact R.lk
  · rw [size_setCell]; exact R.lf
  · rw [size_setCell]; exact R.ls
  · rw [size_setCell]; exact R.ld

theorem Rep.setD (R : Rep w bk bf bs bd K) {i c o : Nat} (hi : i < K.nD) (hc : c < 5) (ho : o = i * 5 + c) (v : Int) : Rep (w.setCell ⟨bd, o, none⟩ (.int .i64 v)) bk bf bs bd (K.setD i c v) := by
  subst ho
  have := R.kf; have := R.ks; have := R.kd; have := R.fs; have := R.fd; have := R.sd
  refine ⟨?_, ?_, ?_, ?_, ?_, ?_, ?_, ?_, ?_, ?_, ?_, ?_, ?_, ?_, R.kf, R.ks, R.kd, R.fs, R.fd, R.sd, R.hF, R.hS, R.hD⟩
  · rw [cell_set_other w _ (by omega)]; exact R.k0
  · rw [cell_set_other w _ (by omega)]; exact R.k1
  · rw [cell_set_other w _ (by omega)]; exact R.k2
  · intro a b ha hb; rw [cell_set_other w _ (by omega)]; exact R.f a b ha hb
  · intro a b ha hb hb'; rw [cell_set_other w _ (by omega)]; exact R.s a b ha hb hb'
  · intro a b ha hb; rw [cell_set_other w _ (by omega)]; exact R.b a b ha hb
  · intro a b ha hb
    by_cases e : a = i ∧ b = c
    · obtain ⟨rfl, rfl⟩ := e
      rw [cell_set_same w _ (R.d a b hi hc)]; simp [Ker.setD, upd]
    · rw [cell_set_other w _ (by omega), R.d a b ha hb]; simp [Ker.setD, upd, e]
  · intro o; rw [frozen_setCell]; exact R.zf o
  · intro o; rw [frozen_setCell]; exact R.zs o
  · intro o; rw [frozen_setCell]; exact R.zd o
  · rw [size_setCell]; exact R.lk
  · rw [size_setCell]; exact R.lf
  · rw [size_setCell]; exact R.ls
  · rw [size_setCell]; exact R.ld

/-- What holds in a world holds in another whose four blocks are the same. -/
theorem Rep.same {w' : World} (R : Rep w bk bf bs bd K) (hz : w.heap.size ≤ w'.heap.size) (h : ∀ k, k < w.heap.size → (k = bk ∨ k = bf ∨ k = bs ∨ k = bd) → w'.heap[k]? = w.heap[k]?) : Rep w' bk bf bs bd K := by
  have ck : ∀ o, w'.cell? ⟨bk, o, none⟩ = w.cell? ⟨bk, o, none⟩ := fun o => World.cell?_of_block (w := w) (a := ⟨bk, o, none⟩) (h bk R.lk (by simp))
  have cf : ∀ o, w'.cell? ⟨bf, o, none⟩ = w.cell? ⟨bf, o, none⟩ := fun o => World.cell?_of_block (w := w) (a := ⟨bf, o, none⟩) (h bf R.lf (by simp))
  have cs : ∀ o, w'.cell? ⟨bs, o, none⟩ = w.cell? ⟨bs, o, none⟩ := fun o => World.cell?_of_block (w := w) (a := ⟨bs, o, none⟩) (h bs R.ls (by simp))
  have cd : ∀ o, w'.cell? ⟨bd, o, none⟩ = w.cell? ⟨bd, o, none⟩ := fun o => World.cell?_of_block (w := w) (a := ⟨bd, o, none⟩) (h bd R.ld (by simp))
  have ff : ∀ o, w'.frozen? ⟨bf, o, none⟩ = w.frozen? ⟨bf, o, none⟩ := fun o => World.frozen?_of_block (w := w) (a := ⟨bf, o, none⟩) (h bf R.lf (by simp))
  have fs : ∀ o, w'.frozen? ⟨bs, o, none⟩ = w.frozen? ⟨bs, o, none⟩ := fun o => World.frozen?_of_block (w := w) (a := ⟨bs, o, none⟩) (h bs R.ls (by simp))
  have fd : ∀ o, w'.frozen? ⟨bd, o, none⟩ = w.frozen? ⟨bd, o, none⟩ := fun o => World.frozen?_of_block (w := w) (a := ⟨bd, o, none⟩) (h bd R.ld (by simp))
  exact ⟨(ck _).trans R.k0, (ck _).trans R.k1, (ck _).trans R.k2, fun i c a b => (cf _).trans (R.f i c a b), fun i c a b e => (cs _).trans (R.s i c a b e), fun i c a b => (cs _).trans (R.b i c a b), fun i c a b => (cd _).trans (R.d i c a b),
    fun o => (ff o).trans (R.zf o), fun o => (fs o).trans (R.zs o), fun o => (fd o).trans (R.zd o), Nat.lt_of_lt_of_le R.lk hz, Nat.lt_of_lt_of_le R.lf hz, Nat.lt_of_lt_of_le R.ls hz, Nat.lt_of_lt_of_le R.ld hz, R.kf, R.ks, R.kd, R.fs, R.fd, R.sd, R.hF, R.hS, R.hD⟩
theorem Rep.alloc (R : Rep w bk bf bs bd K) (o : Obj) : Rep (w.alloc o) bk bf bs bd K := R.same (by simp) (fun k hk _ => Below.heap_alloc w o k hk)
theorem Rep.drew (R : Rep w bk bf bs bd K) : Rep w.drew bk bf bs bd K := R.same (Nat.le_refl _) (fun _ _ _ => rfl)
theorem drewN_heap (w : World) : ∀ n, (w.drewN n).heap = w.heap := fun n => by simp
theorem Rep.drewN (R : Rep w bk bf bs bd K) (n : Nat) : Rep (w.drewN n) bk bf bs bd K := R.same (by simp) (fun k _ _ => by simp)
/-- A store into another block. -/
theorem Rep.setOther (R : Rep w bk bf bs bd K) (a : Addr) (v : Value) (h : a.block ≠ bk ∧ a.block ≠ bf ∧ a.block ≠ bs ∧ a.block ≠ bd) : Rep (w.setCell a v) bk bf bs bd K :=
  R.same (by simp [World.setCell]) (fun k _ e => Below.heap_setCell w a v k (by omega))
end

/-- A step: the streams are as they were, no block has gone, and of the old blocks only the kernel's three lists may have turned. -/
structure Keeps (bf bs bd : Nat) (w w' : World) : Prop where
  os : w'.os = w.os
  tape : w'.tape = w.tape
  output : w'.output = w.output
  size : w.heap.size ≤ w'.heap.size
  block : ∀ k, k < w.heap.size → k ≠ bf → k ≠ bs → k ≠ bd → w'.heap[k]? = w.heap[k]?

section
variable {bf bs bd : Nat} {a w w' : World}
theorem Keeps.refl (w : World) : Keeps bf bs bd w w := ⟨rfl, rfl, rfl, Nat.le_refl _, fun _ _ _ _ _ => rfl⟩
theorem Keeps.trans (h : Keeps bf bs bd a w) (k : Keeps bf bs bd w w') : Keeps bf bs bd a w' :=
  ⟨k.os.trans h.os, k.tape.trans h.tape, k.output.trans h.output, Nat.le_trans h.size k.size, fun i hi h1 h2 h3 => (k.block i (Nat.lt_of_lt_of_le hi h.size) h1 h2 h3).trans (h.block i hi h1 h2 h3)⟩
theorem Keeps.drew (h : Keeps bf bs bd a w) : Keeps bf bs bd a w.drew := ⟨h.os, h.tape, h.output, h.size, h.block⟩
theorem Keeps.drewN (h : Keeps bf bs bd a w) (n : Nat) : Keeps bf bs bd a (w.drewN n) := ⟨h.os, h.tape, h.output, h.size, h.block⟩
theorem Keeps.alloc (h : Keeps bf bs bd a w) (o : Obj) : Keeps bf bs bd a (w.alloc o) :=
  h.trans ⟨rfl, rfl, rfl, by simp, fun k hk _ _ _ => Below.heap_alloc w o k hk⟩
theorem Keeps.setCell (h : Keeps bf bs bd a w) {p : Addr} (hp : p.block = bf ∨ p.block = bs ∨ p.block = bd ∨ a.heap.size ≤ p.block) (u : Value) : Keeps bf bs bd a (w.setCell p u) :=
  ⟨h.os, h.tape, h.output, by rw [size_setCell]; exact h.size, fun k hk h1 h2 h3 => by rw [Below.heap_setCell w p u k (by omega)]; exact h.block k hk h1 h2 h3⟩
theorem Keeps.setF (h : Keeps bf bs bd a w) (o : Nat) (u : Value) : Keeps bf bs bd a (w.setCell ⟨bf, o, none⟩ u) := h.setCell (p := ⟨bf, o, none⟩) (Or.inl rfl) u
theorem Keeps.setS (h : Keeps bf bs bd a w) (o : Nat) (u : Value) : Keeps bf bs bd a (w.setCell ⟨bs, o, none⟩ u) := h.setCell (p := ⟨bs, o, none⟩) (Or.inr (Or.inl rfl)) u
theorem Keeps.setD (h : Keeps bf bs bd a w) (o : Nat) (u : Value) : Keeps bf bs bd a (w.setCell ⟨bd, o, none⟩ u) := h.setCell (p := ⟨bd, o, none⟩) (Or.inr (Or.inr (Or.inl rfl))) u
theorem Keeps.setNew (h : Keeps bf bs bd a w) (b o : Nat) (hb : a.heap.size ≤ b) (u : Value) : Keeps bf bs bd a (w.setCell ⟨b, o, none⟩ u) := h.setCell (p := ⟨b, o, none⟩) (Or.inr (Or.inr (Or.inr hb))) u
theorem Keeps.cell (h : Keeps bf bs bd w w') {b o : Nat} (hk : b < w.heap.size) (h1 : b ≠ bf) (h2 : b ≠ bs) (h3 : b ≠ bd) : w'.cell? ⟨b, o, none⟩ = w.cell? ⟨b, o, none⟩ := World.cell?_of_block (w := w) (a := ⟨b, o, none⟩) (h.block b hk h1 h2 h3)
theorem Keeps.frozen (h : Keeps bf bs bd w w') {b o : Nat} (hk : b < w.heap.size) (h1 : b ≠ bf) (h2 : b ≠ bs) (h3 : b ≠ bd) : w'.frozen? ⟨b, o, none⟩ = w.frozen? ⟨b, o, none⟩ := World.frozen?_of_block (w := w) (a := ⟨b, o, none⟩) (h.block b hk h1 h2 h3)
/-- Where the kernel's lists lie from B on, below B nothing has turned. -/
theorem Keeps.below (h : Keeps bf bs bd w w') {B : Nat} (hB : B ≤ w.heap.size) (h1 : B ≤ bf) (h2 : B ≤ bs) (h3 : B ≤ bd) : Below B w w' :=
  ⟨h.os, h.tape, h.output, h.size, fun k hk => h.block k (by omega) (by omega) (by omega) (by omega)⟩
end
end Go.Proofs.YtcgabodkegcpgaaDoor
