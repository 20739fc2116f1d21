/- The reference's Unmap, Protect, Load, Store. -/
import Derived.Test.YtcgabodkegcpgaaGreatDoorRf2
namespace Go.Proofs.YtcgabodkegcpgaaGreatDoor
open Go.RowKit
set_option linter.unusedVariables false
set_option linter.unusedSimpArgs false
attribute [local go_sem ↓] Go.wp_at_zero Go.wp_at_succ

theorem upd_upd {α : Type} (f : Nat → Nat → α) (i c : Nat) (x y : α) : upd (upd f i c x) i c y = upd f i c y := by
  funext a b
  unfold upd
  by_cases h : a = i ∧ b = c
  · rw [if_pos h, if_pos h]
  · rw [if_neg h, if_neg h, if_neg h]
theorem upd_self {α : Type} (f : Nat → Nat → α) (i c : Nat) : upd f i c (f i c) = f := by
  funext a b
  unfold upd
  by_cases h : a = i ∧ b = c
  · rw [if_pos h, h.1, h.2]
  · rw [if_neg h]
theorem setP_setP (r : Rk) (i c : Nat) (x y : Int) : (r.setP i c x).setP i c y = r.setP i c y := by
  show { r with P := upd (upd r.P i c x) i c y } = { r with P := upd r.P i c y }
  rw [upd_upd]
theorem setPage_self (K : Ker) (s p : Nat) (b : Bool) : K.setPage s p (K.page s p) b = K.setB s (4 + p * 2) b := by
  show { K with S := upd K.S s (3 + p * 2) (K.S s (3 + p * 2)), B := upd K.B s (4 + p * 2) b } = { K with B := upd K.B s (4 + p * 2) b }
  rw [upd_self]

section
variable {w : World} {B : RB} {r : Rk} {K : Ker}
set_option maxHeartbeats 2000000 in
theorem memory_unmap (M : RMem w B r) (U : Rel K r) (O : Own K) (N : Neat K) (G : Good K) {s p : Nat} (y z : Int) (hs : s < K.nS) (hp : p < 4) :
    Calls Tryz.prog 39 #[.pointer (some ⟨B.b, 0, none⟩), .int .i64 s, .int .i64 3, .int .i64 p, .int .i64 y, .int .i64 z] w (REnds B w (kUnmap K s p)) := by
  have HM : Hid (RMem w B r) := M
  have HU : Hid (Rel K r) := U
  have k1 := M.k1
  have hF : r.nF ≤ 32 := M.hF
  have EF : Hid (r.nF = K.nF ∧ r.nS = K.nS) := ⟨U.f, U.s⟩
  have hs' : s < r.nS := by have := U.s; omega
  have i1 : (0 : Int) ≤ (s : Int) := by omega
  have i2 : (s : Int) < (r.nS : Int) := by omega
  have j1 : (0 : Int) ≤ (p : Int) := by omega
  have j2 : (p : Int) < 4 := by omega
  have c1 : w.cell? ⟨B.bp, s * 12 + 4 + p, none⟩ = some (.int .i64 (r.P s (4 + p))) := by rw [Nat.add_assoc]; exact M.pr s (4 + p) hs' (by omega)
  have zp := M.zp
  clear M U
  go_enter Tryz.func39, Tryz.ntmps39
  rcases enc_cases G HU.out hs hp (by have := EF.out; omega) with ⟨h1, h2, h3⟩ | ⟨n, h1, h2, h3⟩
  · rw [h3] at c1
    have E : Hid (kUnmap K s p = ⟨K, 0, 6⟩) := by unfold kUnmap Hid; rw [if_pos h1]
    go_wp2
    go_ret2
    exact REnds.mk E HM.out HU.out (RKeeps.refl _)
  · have E : Hid (kUnmap K s p = ⟨(K.become n 0 (-1)).setPage s p (-1) false, 0, 0⟩) := by unfold kUnmap Hid; rw [if_neg (by omega)]; unfold Ker.freePage; rw [h1, Int.toNat_natCast]
    obtain ⟨v, hv, hv0, hv1⟩ : ∃ v, r.P s (4 + p) = v ∧ 0 < v ∧ v < 100 := ⟨_, rfl, by omega, by have := EF.out; omega⟩
    have ne : ¬ v = 0 := by omega
    rw [hv] at c1
    clear h3 hv
    go_wp2
    go_ret2
    have M1 := HM.out.setP (i := s) (c := 4 + p) (o := s * 12 + 4 + p) hs' (by omega) (by omega) 0
    refine REnds.mk E M1 ?_ ((RKeeps.refl _).setP _ _)
    have U2 := (HU.out.frees n 0 (-1) (by omega)).setPage s p (-1) false hp
    rw [encP_none] at U2
    exact U2
set_option maxHeartbeats 2000000 in
theorem memory_protect (M : RMem w B r) (U : Rel K r) (O : Own K) (N : Neat K) (G : Good K) {s p : Nat} (y z : Int) (hs : s < K.nS) (hp : p < 4) :
    Calls Tryz.prog 39 #[.pointer (some ⟨B.b, 0, none⟩), .int .i64 s, .int .i64 4, .int .i64 p, .int .i64 y, .int .i64 z] w (REnds B w (kProtect K s p y)) := by
  have HM : Hid (RMem w B r) := M
  have HU : Hid (Rel K r) := U
  have k1 := M.k1
  have hF : r.nF ≤ 32 := M.hF
  have EF : Hid (r.nF = K.nF ∧ r.nS = K.nS) := ⟨U.f, U.s⟩
  have hs' : s < r.nS := by have := U.s; omega
  have i1 : (0 : Int) ≤ (s : Int) := by omega
  have i2 : (s : Int) < (r.nS : Int) := by omega
  have j1 : (0 : Int) ≤ (p : Int) := by omega
  have j2 : (p : Int) < 4 := by omega
  have c1 : w.cell? ⟨B.bp, s * 12 + 4 + p, none⟩ = some (.int .i64 (r.P s (4 + p))) := by rw [Nat.add_assoc]; exact M.pr s (4 + p) hs' (by omega)
  have zp := M.zp
  have b2 := M.bp
  have b4 : B.bp ≠ B.b := fun e => b2 e.symm
  clear M U
  go_enter Tryz.func39, Tryz.ntmps39
  rcases enc_cases G HU.out hs hp (by have := EF.out; omega) with ⟨h1, h2, h3⟩ | ⟨n, h1, h2, h3⟩
  · rw [h3] at c1
    have E : Hid (kProtect K s p y = ⟨K, 0, 6⟩) := by unfold kProtect Hid; rw [if_pos h1]
    go_wp2
    go_ret2
    exact REnds.mk E HM.out HU.out (RKeeps.refl _)
  · have hn : n < 32 := by have := EF.out; omega
    obtain ⟨v, hv, hv0, hv1, hq⟩ : ∃ v, r.P s (4 + p) = v ∧ 0 < v ∧ v < 100 ∧ (v - 1).tdiv 2 = n := ⟨_, rfl, by omega, by have := EF.out; omega, by
      rcases h3 with ⟨_, h⟩ | ⟨_, h⟩
      · rw [h]; exact half_enc n false
      · rw [h]; exact half_enc n true⟩
    have ne : ¬ v = 0 := by omega
    rw [hv] at c1
    clear h3 hv
    have EK : ∀ b, Rel (K.setB s (4 + p * 2) b) (r.setP s (4 + p) (encP n b)) := fun b => by
      have U2 := HU.out.setPage s p n b hp
      rw [← setPage_self, h1]; exact U2
    by_cases hy : y = 0
    · subst hy
      have E : Hid (kProtect K s p 0 = ⟨K.setB s (4 + p * 2) false, 0, 0⟩) := by unfold kProtect Hid; rw [if_neg (by omega)]; rfl
      go_wp2
      go_ret2
      have M1 := HM.out.setP (i := s) (c := 4 + p) (o := s * 12 + 4 + p) hs' (by omega) (by omega) (2 * (n : Int) + 1)
      refine REnds.mk E M1 ?_ ((RKeeps.refl _).setP _ _)
      have := EK false
      rw [encP_some] at this
      exact this
    · have E : Hid (kProtect K s p y = ⟨K.setB s (4 + p * 2) true, 0, 0⟩) := by unfold kProtect Hid; rw [if_neg (by omega), show (y != 0) = true from by simpa using hy]
      have e0 : (y != 0) = true := by simpa using hy
      go_wp2
      go_ret2
      have M1 := HM.out.setP (i := s) (c := 4 + p) (o := s * 12 + 4 + p) hs' (by omega) (by omega) (2 * (n : Int) + 1)
      have M2 := M1.setP (i := s) (c := 4 + p) (o := s * 12 + 4 + p) hs' (by omega) (by omega) (2 * (n : Int) + 2)
      refine REnds.mk E M2 ?_ (((RKeeps.refl _).setP _ _).setP _ _)
      rw [setP_setP]
      have := EK true
      rw [encP_some] at this
      exact this
set_option maxHeartbeats 2000000 in
theorem memory_load (M : RMem w B r) (U : Rel K r) (O : Own K) (N : Neat K) (G : Good K) {s p x : Nat} (z : Int) (hs : s < K.nS) (hp : p < 4) (hx : x < 4) :
    Calls Tryz.prog 39 #[.pointer (some ⟨B.b, 0, none⟩), .int .i64 s, .int .i64 18, .int .i64 p, .int .i64 x, .int .i64 z] w (REnds B w (kLoad K s p x)) := by
  have HM : Hid (RMem w B r) := M
  have HU : Hid (Rel K r) := U
  have k0 := M.k0
  have k1 := M.k1
  have hF : r.nF ≤ 32 := M.hF
  have EF : Hid (r.nF = K.nF ∧ r.nS = K.nS) := ⟨U.f, U.s⟩
  have hs' : s < r.nS := by have := U.s; omega
  have i1 : (0 : Int) ≤ (s : Int) := by omega
  have i2 : (s : Int) < (r.nS : Int) := by omega
  have j1 : (0 : Int) ≤ (p : Int) := by omega
  have j2 : (p : Int) < 4 := by omega
  have x1 : (0 : Int) ≤ (x : Int) := by omega
  have x2 : (x : Int) < 4 := by omega
  have c1 : w.cell? ⟨B.bp, s * 12 + 4 + p, none⟩ = some (.int .i64 (r.P s (4 + p))) := by rw [Nat.add_assoc]; exact M.pr s (4 + p) hs' (by omega)
  clear M U
  go_enter Tryz.func39, Tryz.ntmps39
  rcases enc_cases G HU.out hs hp (by have := EF.out; omega) with ⟨h1, h2, h3⟩ | ⟨n, h1, h2, h3⟩
  · rw [h3] at c1
    have E : Hid (kLoad K s p x = ⟨K, 0, 6⟩) := by unfold kLoad Hid; rw [if_pos h1]
    go_wp2
    go_ret2
    exact REnds.mk E HM.out HU.out (RKeeps.refl _)
  · have hn : n < 32 := by have := EF.out; omega
    have hn' : n < r.nF := by have := EF.out; omega
    have E : Hid (kLoad K s p x = ⟨K, r.W n x, 0⟩) := by
      unfold kLoad Hid
      rw [if_neg (by omega), h1, Int.toNat_natCast, HU.out.w n x h2 hx (Or.inl (O.what (.page s p) ⟨hs, hp⟩ n h1).1)]
    obtain ⟨v, hv, hv0, hv1, hq⟩ : ∃ v, r.P s (4 + p) = v ∧ 0 < v ∧ v < 100 ∧ (v - 1).tdiv 2 = n := ⟨_, rfl, by omega, by have := EF.out; omega, by
      rcases h3 with ⟨_, h⟩ | ⟨_, h⟩
      · rw [h]; exact half_enc n false
      · rw [h]; exact half_enc n true⟩
    have ne : ¬ v = 0 := by omega
    have l1 : (0 : Int) ≤ (n : Int) := by omega
    have l2 : (n : Int) < (r.nF : Int) := by omega
    have c2 := HM.out.wd n x hn' hx
    rw [hv] at c1
    clear h3 hv
    go_wp2
    go_ret2
    exact REnds.mk E HM.out HU.out (RKeeps.refl _)
set_option maxHeartbeats 2000000 in
theorem memory_store (M : RMem w B r) (U : Rel K r) (O : Own K) (N : Neat K) (G : Good K) {s p x : Nat} (z : Int) (hs : s < K.nS) (hp : p < 4) (hx : x < 4) :
    Calls Tryz.prog 39 #[.pointer (some ⟨B.b, 0, none⟩), .int .i64 s, .int .i64 19, .int .i64 p, .int .i64 x, .int .i64 z] w (REnds B w (kStore K s p x z)) := by
  have HM : Hid (RMem w B r) := M
  have HU : Hid (Rel K r) := U
  have k0 := M.k0
  have k1 := M.k1
  have hF : r.nF ≤ 32 := M.hF
  have EF : Hid (r.nF = K.nF ∧ r.nS = K.nS) := ⟨U.f, U.s⟩
  have hs' : s < r.nS := by have := U.s; omega
  have i1 : (0 : Int) ≤ (s : Int) := by omega
  have i2 : (s : Int) < (r.nS : Int) := by omega
  have j1 : (0 : Int) ≤ (p : Int) := by omega
  have j2 : (p : Int) < 4 := by omega
  have x1 : (0 : Int) ≤ (x : Int) := by omega
  have x2 : (x : Int) < 4 := by omega
  have c1 : w.cell? ⟨B.bp, s * 12 + 4 + p, none⟩ = some (.int .i64 (r.P s (4 + p))) := by rw [Nat.add_assoc]; exact M.pr s (4 + p) hs' (by omega)
  have zw := M.zw
  clear M U
  go_enter Tryz.func39, Tryz.ntmps39
  rcases enc_cases G HU.out hs hp (by have := EF.out; omega) with ⟨h1, h2, h3⟩ | ⟨n, h1, h2, h3⟩
  · rw [h3] at c1
    have E : Hid (kStore K s p x z = ⟨K, 0, 6⟩) := by unfold kStore Hid; rw [if_pos h2]
    go_wp2
    go_ret2
    exact REnds.mk E HM.out HU.out (RKeeps.refl _)
  · have hn : n < 32 := by have := EF.out; omega
    have hn' : n < r.nF := by have := EF.out; omega
    rcases h3 with ⟨hw, h⟩ | ⟨hw, h⟩
    · have E : Hid (kStore K s p x z = ⟨K, 0, 6⟩) := by unfold kStore Hid; rw [if_pos hw]
      have hm : (2 * (n : Int) + 1).tmod 2 = 1 := by rw [show (2 * (n : Int) + 1) = ((2 * n + 1 : Nat) : Int) by omega, show (2 : Int) = ((2 : Nat) : Int) by rfl, ← Int.ofNat_tmod]; omega
      have hq : (2 * (n : Int) + 1 - 1).tdiv 2 = n := half_enc n false
      obtain ⟨v, hv, hv0, hv1⟩ : ∃ v, 2 * (n : Int) + 1 = v ∧ 0 < v ∧ v < 100 := ⟨_, rfl, by omega, by omega⟩
      have ne : ¬ v = 0 := by omega
      rw [h, hv] at c1
      rw [hv] at hm hq
      clear h hv
      go_wp2
      go_ret2
      exact REnds.mk E HM.out HU.out (RKeeps.refl _)
    · have E : Hid (kStore K s p x z = ⟨K.setF n (2 + x) z, 0, 0⟩) := by unfold kStore Hid; rw [if_neg (by simp [hw]), h1, Int.toNat_natCast]
      have hm : (2 * (n : Int) + 2).tmod 2 = 0 := by rw [show (2 * (n : Int) + 2) = ((2 * n + 2 : Nat) : Int) by omega, show (2 : Int) = ((2 : Nat) : Int) by rfl, ← Int.ofNat_tmod]; omega
      have hq : (2 * (n : Int) + 2 - 1).tdiv 2 = n := half_enc n true
      obtain ⟨v, hv, hv0, hv1⟩ : ∃ v, 2 * (n : Int) + 2 = v ∧ 0 < v ∧ v < 100 := ⟨_, rfl, by omega, by omega⟩
      have ne : ¬ v = 0 := by omega
      have l1 : (0 : Int) ≤ (n : Int) := by omega
      have l2 : (n : Int) < (r.nF : Int) := by omega
      have c2 := HM.out.wd n x hn' hx
      rw [h, hv] at c1
      rw [hv] at hm hq
      clear h hv
      go_wp2
      go_ret2
      have M1 := HM.out.setW (i := n) (c := x) (o := n * 4 + x) hn' hx rfl z
      exact REnds.mk E M1 (HU.out.setWord n x z hx) ((RKeeps.refl _).setW _ _)
end
end Go.Proofs.YtcgabodkegcpgaaGreatDoor
