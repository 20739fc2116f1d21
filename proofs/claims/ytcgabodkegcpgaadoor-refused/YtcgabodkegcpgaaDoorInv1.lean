/- Plain facts on the kernel's numbers: what New makes is good, and Map, Pipe, Store, Write, Read keep it so. -/
import Derived.Test.YtcgabodkegcpgaaDoorSpec
namespace Go.Proofs.YtcgabodkegcpgaaDoor
set_option linter.unusedVariables false

/-- Reading what was set. -/
theorem Ker.become_F (K : Ker) (i : Nat) (a b : Int) (j c : Nat) (h : j ≠ i) : (K.become i a b).F j c = K.F j c := by
  simp [Ker.become, Ker.setF, upd, h]

theorem good_setF {K : Ker} (G : Good K) (i c : Nat) (v : Int) : Good (K.setF i c v) := ⟨G.page, G.wr, G.file, G.duct, G.head, G.cnt, G.rd, G.wt, G.tab⟩
theorem good_become {K : Ker} (G : Good K) (i : Nat) (a b : Int) : Good (K.become i a b) :=
  good_setF (good_setF (good_setF (good_setF (good_setF (good_setF G _ _ _) _ _ _) _ _ _) _ _ _) _ _ _) _ _ _

theorem good_setPage {K : Ker} (G : Good K) (s p : Nat) (f : Int) (b : Bool) (hp : p < 4) (hf : f = -1 ∨ (0 ≤ f ∧ f < K.nF)) (hb : b = true → f ≠ -1) : Good (K.setPage s p f b) := by
  refine ⟨?_, ?_, ?_, G.duct, G.head, G.cnt, G.rd, G.wt, ?_⟩
  · intro i q hi hq
    show upd K.S s (3 + p * 2) f i (3 + q * 2) = -1 ∨ _
    by_cases e : i = s ∧ q = p
    · obtain ⟨rfl, rfl⟩ := e
      simp only [Ker.page, Ker.setPage, Ker.setS, Ker.setB, upd_same]
      exact hf
    · have e' : ¬ (i = s ∧ 3 + q * 2 = 3 + p * 2) := by omega
      simp only [Ker.page, Ker.setPage, Ker.setS, Ker.setB, upd_other _ _ _ _ _ _ e']
      exact G.page i q hi hq
  · intro i q hi hq
    by_cases e : i = s ∧ q = p
    · obtain ⟨rfl, rfl⟩ := e
      simp only [Ker.wr, Ker.page, Ker.setPage, Ker.setS, Ker.setB, upd_same]
      exact hb
    · have e' : ¬ (i = s ∧ 3 + q * 2 = 3 + p * 2) := by omega
      have e'' : ¬ (i = s ∧ 4 + q * 2 = 4 + p * 2) := by omega
      simp only [Ker.wr, Ker.page, Ker.setPage, Ker.setS, Ker.setB, upd_other _ _ _ _ _ _ e', upd_other _ _ _ _ _ _ e'']
      exact G.wr i q hi hq
  · intro i x hi hx
    have e' : ¬ (i = s ∧ 11 + x * 2 = 3 + p * 2) := by omega
    simp only [Ker.file, Ker.setPage, Ker.setS, Ker.setB, upd_other _ _ _ _ _ _ e']
    exact G.file i x hi hx
  · intro i hi
    have e' : ¬ (i = s ∧ 0 = 3 + p * 2) := by omega
    have e'' : ¬ (i = s ∧ 2 = 3 + p * 2) := by omega
    simp only [Ker.setPage, Ker.setS, Ker.setB, upd_other _ _ _ _ _ _ e', upd_other _ _ _ _ _ _ e'']
    exact G.tab i hi

theorem good_map {K : Ker} (G : Good K) {s p f : Nat} (hp : p < 4) (hf : f < K.nF) : Good (kMap K s p f).K := by
  unfold kMap
  split
  · exact G
  split
  · exact G
  exact good_setPage (good_become G f 2 s) s p f true hp (Or.inr ⟨by omega, by show (f : Int) < K.nF; omega⟩) (by omega)

theorem setD_D (K : Ker) (d c : Nat) (v : Int) (i k : Nat) : (K.setD d c v).D i k = if i = d ∧ k = c then v else K.D i k := rfl
/-- A pipe's numbers are set. -/
theorem good_setD {K : Ker} (G : Good K) (d c : Nat) (v : Int) (h : (c = 0 ∧ 0 ≤ v ∧ v < K.nF) ∨ (c = 1 ∧ 0 ≤ v ∧ v < 4) ∨ (c = 2 ∧ 0 ≤ v ∧ v ≤ 4) ∨ (c = 3 ∧ 0 ≤ v ∧ v ≤ 24) ∨ (c = 4 ∧ 0 ≤ v ∧ v ≤ 24)) : Good (K.setD d c v) := by
  refine ⟨G.page, G.wr, ?_, ?_, ?_, ?_, ?_, ?_, G.tab⟩
  · intro i x hi hx
    rw [setD_D]
    rcases G.file i x hi hx with k | ⟨k1, k2, k3⟩
    · exact Or.inl k
    · refine Or.inr ⟨k1, k2, ?_⟩
      split
      · omega
      · exact k3
  · intro i hi
    rw [setD_D]
    have := G.duct i hi
    split
    · right
      show 0 ≤ v ∧ v < K.nF
      omega
    · exact this
  · intro i hi; rw [setD_D]; have := G.head i hi; split <;> omega
  · intro i hi; rw [setD_D]; have := G.cnt i hi; split <;> omega
  · intro i hi; rw [setD_D]; have := G.rd i hi; split <;> omega
  · intro i hi; rw [setD_D]; have := G.wt i hi; split <;> omega

theorem good_noDuct {K : Ker} (G : Good K) (d : Nat) (f : Int) (hf : 0 ≤ f ∧ f < K.nF) : Good (K.noDuct d f) :=
  good_setD (good_setD (good_setD (good_setD (good_setD G d 0 f (by omega)) d 1 0 (by omega)) d 2 0 (by omega)) d 3 0 (by omega)) d 4 0 (by omega)

theorem good_setFile {K : Ker} (G : Good K) (s x : Nat) (d : Int) (b : Bool) (hx : x < 4) (hd : d = -1 ∨ (0 ≤ d ∧ d < K.nD ∧ 0 ≤ K.D d.toNat 0)) : Good (K.setFile s x d b) := by
  refine ⟨?_, ?_, ?_, G.duct, G.head, G.cnt, G.rd, G.wt, ?_⟩
  · intro i q hi hq
    have e' : ¬ (i = s ∧ 3 + q * 2 = 11 + x * 2) := by omega
    simp only [Ker.page, Ker.setFile, Ker.setS, Ker.setB, upd_other _ _ _ _ _ _ e']
    exact G.page i q hi hq
  · intro i q hi hq
    have e' : ¬ (i = s ∧ 3 + q * 2 = 11 + x * 2) := by omega
    have e'' : ¬ (i = s ∧ 4 + q * 2 = 12 + x * 2) := by omega
    simp only [Ker.wr, Ker.page, Ker.setFile, Ker.setS, Ker.setB, upd_other _ _ _ _ _ _ e', upd_other _ _ _ _ _ _ e'']
    exact G.wr i q hi hq
  · intro i y hi hy
    by_cases e : i = s ∧ y = x
    · obtain ⟨rfl, rfl⟩ := e
      simp only [Ker.file, Ker.setFile, Ker.setS, Ker.setB, upd_same]
      exact hd
    · have e' : ¬ (i = s ∧ 11 + y * 2 = 11 + x * 2) := by omega
      simp only [Ker.file, Ker.setFile, Ker.setS, Ker.setB, upd_other _ _ _ _ _ _ e']
      exact G.file i y hi hy
  · intro i hi
    have e' : ¬ (i = s ∧ 0 = 11 + x * 2) := by omega
    have e'' : ¬ (i = s ∧ 2 = 11 + x * 2) := by omega
    simp only [Ker.setFile, Ker.setS, Ker.setB, upd_other _ _ _ _ _ _ e', upd_other _ _ _ _ _ _ e'']
    exact G.tab i hi

theorem good_openFile {K : Ker} (G : Good K) (s x d : Nat) (b : Bool) (hx : x < 4) (hd : d < K.nD) (h0 : 0 ≤ K.D d 0) (h3 : 0 ≤ K.D d 3 ∧ K.D d 3 < 24) (h4 : 0 ≤ K.D d 4 ∧ K.D d 4 < 24) : Good (K.openFile s x d b) := by
  have G1 : Good (K.setFile s x d b) := good_setFile G s x d b hx (Or.inr ⟨by omega, by omega, by simpa using h0⟩)
  cases b
  · exact good_setD G1 d 3 (K.D d 3 + 1) (by omega)
  · exact good_setD G1 d 4 (K.D d 4 + 1) (by omega)

theorem good_pipe {K : Ker} (G : Good K) {s n f x : Nat} (hn : n < K.nD) (hf : f < K.nF) (hx : x < 4) : Good (kPipe K s n f x).K := by
  unfold kPipe
  split
  · exact G
  split
  · exact G
  split
  · exact G
  rename_i h
  have hx3 : x < 3 := by omega
  have G0 : Good (K.become f 3 (-1)) := good_become G f 3 (-1)
  have n0 : (K.become f 3 (-1)).nF = K.nF := rfl
  have d0 : (K.become f 3 (-1)).nD = K.nD := rfl
  rw [← d0] at hn
  rw [← n0] at hf
  show Good ((((K.become f 3 (-1)).noDuct n f).openFile s x n false).openFile s (x + 1) n true)
  clear n0 d0 h
  generalize K.become f 3 (-1) = K0 at *
  have G1 : Good (K0.noDuct n f) := good_noDuct G0 n f ⟨by omega, by omega⟩
  have q0 : (K0.noDuct n f).D n 0 = f := by simp [Ker.noDuct, Ker.setD, upd]
  have q3 : (K0.noDuct n f).D n 3 = 0 := by simp [Ker.noDuct, Ker.setD, upd]
  have q4 : (K0.noDuct n f).D n 4 = 0 := by simp [Ker.noDuct, Ker.setD, upd]
  have qn : n < (K0.noDuct n f).nD := hn
  clear G0 hn
  generalize K0.noDuct n f = K1 at *
  have G2 : Good (K1.openFile s x n false) := good_openFile G1 s x n false hx qn (by omega) (by omega) (by omega)
  have r0 : (K1.openFile s x n false).D n 0 = K1.D n 0 := by simp [Ker.openFile, Ker.count, Ker.setFile, Ker.setS, Ker.setB, Ker.setD, upd]
  have r3 : (K1.openFile s x n false).D n 3 = K1.D n 3 + 1 := by simp [Ker.openFile, Ker.count, Ker.setFile, Ker.setS, Ker.setB, Ker.setD, upd]
  have r4 : (K1.openFile s x n false).D n 4 = K1.D n 4 := by simp [Ker.openFile, Ker.count, Ker.setFile, Ker.setS, Ker.setB, Ker.setD, upd]
  exact good_openFile G2 s (x + 1) n true (by omega) qn (by omega) (by omega) (by omega)

theorem good_store {K : Ker} (G : Good K) (s p x : Nat) (v : Int) : Good (kStore K s p x v).K := by
  unfold kStore; split
  · exact G
  · exact good_setF G _ _ _
theorem good_load {K : Ker} (G : Good K) (s p x : Nat) : Good (kLoad K s p x).K := by
  unfold kLoad; split <;> exact G
theorem good_write {K : Ker} (G : Good K) {s x p j : Nat} (hs : s < K.nS) (hx : x < 4) : Good (kWrite K s x p j).K := by
  unfold kWrite
  split
  · exact G
  rename_i h1
  split
  · exact G
  split
  · exact G
  split
  · exact G
  rename_i h2 h3 h4
  have hd : (K.file s x).toNat < K.nD := by rcases G.file s x hs hx with k | k <;> omega
  have := G.cnt _ hd
  exact good_setD (good_setF G _ _ _) _ 2 _ (by omega)
theorem good_read {K : Ker} (G : Good K) {s x p j : Nat} (hs : s < K.nS) (hx : x < 4) : Good (kRead K s x p j).K := by
  unfold kRead
  split
  · exact G
  rename_i h1
  split
  · exact G
  split
  · exact G
  split
  · exact G
  rename_i h2 h3 h4
  have hd : (K.file s x).toNat < K.nD := by rcases G.file s x hs hx with k | k <;> omega
  have := G.cnt _ hd
  have := G.head _ hd
  exact good_setD (good_setD (good_setF G _ _ _) _ 1 _ (by omega)) _ 2 _ (by omega)

def kBase (nF nS nD : Nat) : Ker := { nF := nF, nS := nS, nD := nD, F := fun _ c => if c = 1 then -1 else 0, S := fun _ c => if c = 0 ∨ c = 19 then 0 else -1, B := fun _ _ => false, D := fun _ c => if c = 0 then -1 else 0 }
def kNew (nF nS nD : Nat) : Ker := (((kBase nF nS nD).become 0 1 0).setS 0 0 2).setS 0 2 0
theorem good_new (nF nS nD : Nat) (hF : 2 ≤ nF) : Good (kNew nF nS nD) := by
  refine ⟨?_, ?_, ?_, ?_, ?_, ?_, ?_, ?_, ?_⟩
  · intro i p hi hp
    left
    have e' : ¬ (i = 0 ∧ 3 + p * 2 = 0) := by omega
    have e'' : ¬ (i = 0 ∧ 3 + p * 2 = 2) := by omega
    have e3 : ¬ (3 + p * 2 = 0 ∨ 3 + p * 2 = 19) := by omega
    simp only [Ker.page, kNew, kBase, Ker.become, Ker.setS, Ker.setF, upd_other _ _ _ _ _ _ e', upd_other _ _ _ _ _ _ e'', if_neg e3]
  · intro i p hi hp h; cases h
  · intro i x hi hx
    left
    have e' : ¬ (i = 0 ∧ 11 + x * 2 = 0) := by omega
    have e'' : ¬ (i = 0 ∧ 11 + x * 2 = 2) := by omega
    have e3 : ¬ (11 + x * 2 = 0 ∨ 11 + x * 2 = 19) := by omega
    simp only [Ker.file, kNew, kBase, Ker.become, Ker.setS, Ker.setF, upd_other _ _ _ _ _ _ e', upd_other _ _ _ _ _ _ e'', if_neg e3]
  · intro d hd; left; rfl
  · intro d hd; show (0 : Int) ≤ 0 ∧ (0 : Int) < 4; omega
  · intro d hd; show (0 : Int) ≤ 0 ∧ (0 : Int) ≤ 4; omega
  · intro d hd; show (0 : Int) ≤ 0 ∧ (0 : Int) ≤ 24; omega
  · intro d hd; show (0 : Int) ≤ 0 ∧ (0 : Int) ≤ 24; omega
  · intro i hi h
    by_cases e : i = 0
    · subst e
      show 0 ≤ (0 : Int) ∧ (0 : Int) < nF
      omega
    · exfalso
      apply h
      have e' : ¬ (i = 0 ∧ 0 = 0) := by omega
      have e'' : ¬ (i = 0 ∧ 0 = 2) := by omega
      simp only [kNew, kBase, Ker.become, Ker.setS, Ker.setF, upd_other _ _ _ _ _ _ e', upd_other _ _ _ _ _ _ e'']
      rfl
end Go.Proofs.YtcgabodkegcpgaaDoor
