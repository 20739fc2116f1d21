/- Plain facts on the kernel's numbers: every call, at whatever numbers, keeps the books good. -/
import Derived.Test.YtcgabodkegcpgaaDoorInv4
namespace Go.Proofs.YtcgabodkegcpgaaDoor
set_option linter.unusedVariables false

theorem fits_num {K : Ker} {t a : Int} (h : fits K t a = true) (ht : t ≠ 0) : ∃ n : Nat, a = n ∧ (n : Int) < howMany K t := by
  unfold fits at h
  simp [ht] at h
  exact ⟨a.toNat, by omega, by omega⟩
theorem many1 (K : Ker) : howMany K 1 = K.nF := rfl
theorem many2 (K : Ker) : howMany K 2 = K.nS := rfl
theorem many3 (K : Ker) : howMany K 3 = K.nD := rfl
theorem many4 (K : Ker) : howMany K 4 = 4 := rfl
theorem many5 (K : Ker) : howMany K 5 = 4 := rfl
theorem many6 (K : Ker) : howMany K 6 = 4 := rfl

theorem inv_do {K : Ker} (I : Inv K) (s n : Nat) (a b c : Int) (hs : s < K.nS) (hr : K.S s 0 ≠ 0) (hn : n < 20)
    (hf : fits K ((argKinds n).getD 0 0) a = true ∧ fits K ((argKinds n).getD 1 0) b = true ∧ fits K ((argKinds n).getD 2 0) c = true) : Inv (kDo K s n a b c).K := by
  obtain ⟨f0, f1, f2⟩ := hf
  have m1 := many1 K; have m2 := many2 K; have m3 := many3 K; have m4 := many4 K; have m5 := many5 K; have m6 := many6 K
  obtain rfl | rfl | rfl | rfl | rfl | rfl | rfl | rfl | rfl | rfl | rfl | rfl | rfl | rfl | rfl | rfl | rfl | rfl | rfl | rfl : n = 0 ∨ n = 1 ∨ n = 2 ∨ n = 3 ∨ n = 4 ∨ n = 5 ∨ n = 6 ∨ n = 7 ∨ n = 8 ∨ n = 9 ∨ n = 10 ∨ n = 11 ∨ n = 12 ∨ n = 13 ∨ n = 14 ∨ n = 15 ∨ n = 16 ∨ n = 17 ∨ n = 18 ∨ n = 19 := by omega
  · exact I
  · exact I
  · obtain ⟨a', rfl, ha⟩ := fits_num (t := 4) f0 (by decide)
    obtain ⟨b', rfl, hb⟩ := fits_num (t := 1) f1 (by decide)
    exact inv_map I (by omega) (by omega)
  · obtain ⟨a', rfl, ha⟩ := fits_num (t := 4) f0 (by decide)
    exact inv_unmap I (by omega)
  · obtain ⟨a', rfl, ha⟩ := fits_num (t := 4) f0 (by decide)
    exact inv_protect I b (by omega)
  · obtain ⟨a', rfl, ha⟩ := fits_num (t := 2) f0 (by decide)
    obtain ⟨b', rfl, hb⟩ := fits_num (t := 1) f1 (by decide)
    exact inv_spawn I (by omega)
  · obtain ⟨a', rfl, ha⟩ := fits_num (t := 2) f0 (by decide)
    obtain ⟨b', rfl, hb⟩ := fits_num (t := 4) f1 (by decide)
    obtain ⟨c', rfl, hc⟩ := fits_num (t := 1) f2 (by decide)
    exact inv_copy I (by omega) (by omega)
  · obtain ⟨a', rfl, ha⟩ := fits_num (t := 2) f0 (by decide)
    obtain ⟨b', rfl, hb⟩ := fits_num (t := 5) f1 (by decide)
    obtain ⟨c', rfl, hc⟩ := fits_num (t := 5) f2 (by decide)
    exact inv_give I hs (by omega) (by omega) (by omega)
  · exact inv_start I
  · exact inv_exit I a hr
  · obtain ⟨a', rfl, ha⟩ := fits_num (t := 2) f0 (by decide)
    obtain ⟨b', rfl, hb⟩ := fits_num (t := 4) f1 (by decide)
    exact inv_drop I (by omega)
  · obtain ⟨a', rfl, ha⟩ := fits_num (t := 2) f0 (by decide)
    obtain ⟨b', rfl, hb⟩ := fits_num (t := 5) f1 (by decide)
    exact inv_shut I (by omega) (by omega)
  · obtain ⟨a', rfl, ha⟩ := fits_num (t := 2) f0 (by decide)
    exact inv_reap I (by omega)
  · obtain ⟨a', rfl, ha⟩ := fits_num (t := 3) f0 (by decide)
    obtain ⟨b', rfl, hb⟩ := fits_num (t := 1) f1 (by decide)
    obtain ⟨c', rfl, hc⟩ := fits_num (t := 5) f2 (by decide)
    exact inv_pipe I hs (by omega) (by omega) (by omega)
  · obtain ⟨a', rfl, ha⟩ := fits_num (t := 5) f0 (by decide)
    obtain ⟨b', rfl, hb⟩ := fits_num (t := 5) f1 (by decide)
    exact inv_dup I hs (by omega) (by omega)
  · obtain ⟨a', rfl, ha⟩ := fits_num (t := 5) f0 (by decide)
    exact inv_close I hs (by omega)
  · obtain ⟨a', rfl, ha⟩ := fits_num (t := 5) f0 (by decide)
    exact inv_write I hs (by omega)
  · obtain ⟨a', rfl, ha⟩ := fits_num (t := 5) f0 (by decide)
    exact inv_read I hs (by omega)
  · exact inv_load I s _ _
  · exact inv_store I s _ _ _

theorem inv_call {K : Ker} (I : Inv K) (slot call a b c : Int) : Inv (kCall K slot call a b c).K := by
  unfold kCall
  by_cases h1 : ¬ (0 ≤ call ∧ call < 20) ∨ call = 0
  · rw [if_pos h1]; exact I
  rw [if_neg h1]
  by_cases h2 : ¬ (0 ≤ slot ∧ slot < K.nS) ∨ K.S slot.toNat 0 ≠ 2
  · rw [if_pos h2]; exact I
  rw [if_neg h2]
  by_cases h3 : fits K ((argKinds call.toNat).getD 0 0) a = false ∨ fits K ((argKinds call.toNat).getD 1 0) b = false ∨ fits K ((argKinds call.toNat).getD 2 0) c = false
  · rw [if_pos h3]; exact I
  rw [if_neg h3]
  have g0 : fits K ((argKinds call.toNat).getD 0 0) a = true := by cases h : fits K ((argKinds call.toNat).getD 0 0) a; exact absurd (Or.inl h) h3; rfl
  have g1 : fits K ((argKinds call.toNat).getD 1 0) b = true := by cases h : fits K ((argKinds call.toNat).getD 1 0) b; exact absurd (Or.inr (Or.inl h)) h3; rfl
  have g2 : fits K ((argKinds call.toNat).getD 2 0) c = true := by cases h : fits K ((argKinds call.toNat).getD 2 0) c; exact absurd (Or.inr (Or.inr h)) h3; rfl
  exact inv_do I slot.toNat call.toNat a b c (by omega) (by omega) (by omega) ⟨g0, g1, g2⟩
end Go.Proofs.YtcgabodkegcpgaaDoor
