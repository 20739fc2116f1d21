/- The reference's Copy, Drop, Reap; and how it sweeps pipes without an end. -/
import Derived.Test.YtcgabodkegcpgaaGreatDoorRf5
namespace Go.Proofs.YtcgabodkegcpgaaGreatDoor
open Go.RowKit
set_option linter.unusedVariables false
set_option linter.unusedSimpArgs false
attribute [local go_sem ↓] Go.wp_at_zero Go.wp_at_succ

theorem set_keep {W : World} {b o o' : Nat} {u v : Value} (h : o' ≠ o) (hw : W.cell? ⟨b, o', none⟩ = some v) : (W.setCell ⟨b, o, none⟩ u).cell? ⟨b, o', none⟩ = some v := by rw [cell_set_other W _ (Or.inr h)]; exact hw
theorem drew_keep {W : World} {a : Addr} {v : Value} (h : W.cell? a = some v) : W.drew.cell? a = some v := h
def Rk.words (r : Rk) (f n : Nat) : Rk := (((r.setW f 0 (r.W n 0)).setW f 1 (r.W n 1)).setW f 2 (r.W n 2)).setW f 3 (r.W n 3)
theorem words_W (r : Rk) (f n g j : Nat) (hj : j < 4) : (r.words f n).W g j = if g = f then r.W n j else r.W g j := by
  unfold Rk.words Rk.setW upd
  by_cases h : g = f
  · subst h
    obtain rfl | rfl | rfl | rfl : j = 0 ∨ j = 1 ∨ j = 2 ∨ j = 3 := by omega
    all_goals simp
  · simp [h]
theorem copyWords_F (K : Ker) (g h : Nat) (hne : g ≠ h) (n c : Nat) : (K.copyWords g h).F n c = if n = g ∧ 2 ≤ c ∧ c < 6 then K.F h c else K.F n c := by
  have hn : ¬ h = g := fun e => hne e.symm
  unfold Ker.copyWords Ker.setF upd
  by_cases e : n = g
  · subst e
    by_cases k : 2 ≤ c ∧ c < 6
    · rw [if_pos ⟨rfl, k⟩]
      obtain rfl | rfl | rfl | rfl : c = 2 ∨ c = 3 ∨ c = 4 ∨ c = 5 := by omega
      all_goals simp [hn]
    · rw [if_neg (by omega)]
      have : c ≠ 2 ∧ c ≠ 3 ∧ c ≠ 4 ∧ c ≠ 5 := by omega
      simp [this]
  · rw [if_neg (by omega)]; simp [e]
theorem rel_copy {K : Ker} {r : Rk} (U : Rel K r) {c p f n : Nat} (b : Bool) (hp : p < 4) (hn : n < K.nF) (hk : K.F n 0 = 2) (hf : K.F f 0 = 0) :
    Rel (((K.become f 2 c).setPage c p f b).copyWords f n) ((r.words f n).setP c (4 + p) (encP f b)) := by
  have hne : f ≠ n := by rintro rfl; omega
  have c0 : ∀ g x, g ≠ f → (K.become f 2 c).F g x = K.F g x := fun g x hg => Ker.become_F K f 2 c g x hg
  have z0 : SameSize K (K.become f 2 c) := ⟨rfl, rfl, rfl⟩
  have s0 : (K.become f 2 c).S = K.S := rfl
  have s1 : (K.become f 2 c).B = K.B := rfl
  have s2 : (K.become f 2 c).D = K.D := rfl
  generalize K.become f 2 c = K1 at *
  have U1 : Rel (K1.copyWords f n) (r.words f n) := by
    have F' := copyWords_F K1 f n hne
    have z : SameSize K (K1.copyWords f n) := ⟨z0.f, z0.s, z0.d⟩
    have e1 : (K1.copyWords f n).S = K.S := s0
    have e2 : (K1.copyWords f n).B = K.B := s1
    have e3 : (K1.copyWords f n).D = K.D := s2
    generalize K1.copyWords f n = K2 at *
    refine U.frame z e1 e2 e3 (g := f) (fun g x hg => ?_) _ ⟨rfl, rfl, rfl, rfl, rfl⟩ (fun g j hj hg => ?_) (fun j hj _ _ => ?_)
    · rw [F', if_neg (by omega)]; exact c0 g x hg
    · rw [words_W r f n g j hj, if_neg hg]
    · rw [words_W r f n f j hj, if_pos rfl, F', if_pos ⟨rfl, by omega, by omega⟩, c0 n _ (fun e => hne e.symm)]
      exact U.w n j hn hj (Or.inl hk)
  have U2 := U1.setPage c p f b hp
  have ee : (K1.setPage c p f b).copyWords f n = (K1.copyWords f n).setPage c p f b := rfl
  rw [ee]; exact U2

section
variable {w : World} {B : RB} {r : Rk} {K : Ker}
set_option maxHeartbeats 4000000 in
theorem embryo_copy (M : RMem w B r) (U : Rel K r) (O : Own K) (N : Neat K) (G : Good K) {s c p f : Nat} (hs : s < K.nS) (hc : c < K.nS) (hp : p < 4) (hf : f < K.nF) (he : K.embryo s c = true) :
    Calls Tryz.prog 41 #[.pointer (some ⟨B.b, 0, none⟩), .int .i64 s, .int .i64 6, .int .i64 c, .int .i64 p, .int .i64 f] w (REnds B w (kCopy K s c p f)) := by
  have HM : Hid (RMem w B r) := M
  have HU : Hid (Rel K r) := U
  have k0 := M.k0
  have k1 := M.k1
  have hF : r.nF ≤ 32 := M.hF
  have EF : Hid (r.nF = K.nF ∧ r.nS = K.nS) := ⟨U.f, U.s⟩
  have hc' : c < r.nS := by have := U.s; omega
  have hs' : s < r.nS := by have := U.s; omega
  have hf' : f < r.nF := by have := U.f; omega
  have i1 : (0 : Int) ≤ (c : Int) := by omega
  have i2 : (c : Int) < (r.nS : Int) := by omega
  have l1 : (0 : Int) ≤ (s : Int) := by omega
  have l2 : (s : Int) < (r.nS : Int) := by omega
  have j1 : (0 : Int) ≤ (p : Int) := by omega
  have j2 : (p : Int) < 4 := by omega
  have f1 : (0 : Int) ≤ (f : Int) := by omega
  have f2 : (f : Int) < (r.nF : Int) := by omega
  have c1 : w.cell? ⟨B.bp, s * 12 + 4 + p, none⟩ = some (.int .i64 (r.P s (4 + p))) := by rw [Nat.add_assoc]; exact M.pr s (4 + p) hs' (by omega)
  have c2 : w.cell? ⟨B.bp, c * 12 + 4 + p, none⟩ = some (.int .i64 (r.P c (4 + p))) := by rw [Nat.add_assoc]; exact M.pr c (4 + p) hc' (by omega)
  clear M U
  go_enter Tryz.func41, Tryz.ntmps41
  rcases enc_cases G HU.out hs hp (by have := EF.out; omega) with ⟨h1, h2, h3⟩ | ⟨n, h1, h2, h3⟩
  · have E : Hid (kCopy K s c p f = ⟨K, 0, 6⟩) := by unfold kCopy Hid; rw [if_neg (by simp [he]), if_pos (Or.inl h1)]
    rw [h3] at c1
    go_wp2
    go_ret2
    exact REnds.mk E HM.out HU.out (RKeeps.refl _)
  · have hn : n < 32 := by have := EF.out; omega
    have hn' : n < r.nF := by have := EF.out; omega
    obtain ⟨v, hv, hv0, hv1, hq, hm⟩ : ∃ v, r.P s (4 + p) = v ∧ 0 < v ∧ v < 100 ∧ (v - 1).tdiv 2 = n ∧ v.tmod 2 = (if K.wr s p then 0 else 1) := ⟨_, rfl, by omega, by have := EF.out; omega, by
        rcases h3 with ⟨_, h⟩ | ⟨_, h⟩
        · rw [h]; exact half_enc n false
        · rw [h]; exact half_enc n true, by
        rcases h3 with ⟨hw, h⟩ | ⟨hw, h⟩
        · rw [h, hw, show (2 * (n : Int) + 1) = ((2 * n + 1 : Nat) : Int) by omega, show (2 : Int) = ((2 : Nat) : Int) by rfl, ← Int.ofNat_tmod]; simp
        · rw [h, hw, show (2 * (n : Int) + 2) = ((2 * n + 2 : Nat) : Int) by omega, show (2 : Int) = ((2 : Nat) : Int) by rfl, ← Int.ofNat_tmod]; simp⟩
    have ne : ¬ v = 0 := by omega
    rw [hv] at c1
    clear h3 hv
    rcases enc_cases G HU.out hc hp (by have := EF.out; omega) with ⟨g1, g2, g3⟩ | ⟨m, g1, g2, g3⟩
    · rw [g3] at c2
      by_cases h0 : K.F f 0 = 0
      · have E : Hid (kCopy K s c p f = ⟨((K.become f 2 c).setPage c p f (K.wr s p)).copyWords f n, 0, 0⟩) := by unfold kCopy Hid; rw [if_neg (by simp [he]), if_neg (by omega), if_neg (by omega), h1, Int.toNat_natCast]
        have e0 : (K.F f 0 == 0) = true := by simpa using h0
        go_wp2_with fail
        refine (free_rep HM.out HU.out O N G hf).mono ?_
        rintro e w1 ⟨rfl, rfl⟩
        rw [e0]
        have hk : K.F n 0 = 2 := (O.what (.page s p) ⟨hs, hp⟩ n h1).1
        have hnf : n ≠ f := by rintro rfl; omega
        have n1 : (0 : Int) ≤ (n : Int) := by omega
        have n2 : (n : Int) < (r.nF : Int) := by omega
        have d0 : w1.cell? ⟨B.bw, n * 4, none⟩ = some (.int .i64 (r.W n 0)) := HM.out.wd n 0 hn' (by omega)
        have d1 := HM.out.wd n 1 hn' (by omega)
        have d2 := HM.out.wd n 2 hn' (by omega)
        have d3 := HM.out.wd n 3 hn' (by omega)
        have o0 : w1.cell? ⟨B.bw, f * 4, none⟩ = some (.int .i64 (r.W f 0)) := HM.out.wd f 0 hf' (by omega)
        have o1 := HM.out.wd f 1 hf' (by omega)
        have o2 := HM.out.wd f 2 hf' (by omega)
        have o3 := HM.out.wd f 3 hf' (by omega)
        have zw := HM.out.zw
        have zp := HM.out.zp
        have b1 := HM.out.bw
        have b2 := HM.out.bp
        have b3 : B.bw ≠ B.b := fun e => b1 e.symm
        have b4 : B.bp ≠ B.b := fun e => b2 e.symm
        have b5 := HM.out.wp
        have b6 : B.bp ≠ B.bw := fun e => b5 e.symm
        have q0 : n * 4 ≠ f * 4 := by omega
        have q1 : n * 4 ≠ f * 4 + 1 := by omega
        have q2 : n * 4 ≠ f * 4 + 2 := by omega
        have q3 : n * 4 ≠ f * 4 + 3 := by omega
        have q4 : n * 4 + 1 ≠ f * 4 := by omega
        have q5 : n * 4 + 2 ≠ f * 4 := by omega
        have q6 : n * 4 + 3 ≠ f * 4 := by omega
        have q7 : n ≠ f := hnf
        have a1 : IntKind.i64.wrap (v - 1) = v - 1 := IntWalk.i64_in _ (by omega)
        have a2 : IntKind.i64.wrap (n : Int) = n := IntWalk.i64_in _ (by omega)
        have M1 : Hid (RMem ((((w1.setCell ⟨B.bw, f * 4, none⟩ (.int .i64 (r.W n 0))).setCell ⟨B.bw, f * 4 + 1, none⟩ (.int .i64 (r.W n 1))).setCell ⟨B.bw, f * 4 + 2, none⟩ (.int .i64 (r.W n 2))).setCell ⟨B.bw, f * 4 + 3, none⟩ (.int .i64 (r.W n 3))) B (r.words f n)) :=
          (((HM.out.setW (i := f) (c := 0) (o := f * 4) hf' (by omega) (by omega) (r.W n 0)).setW (i := f) (c := 1) hf' (by omega) rfl (r.W n 1)).setW (i := f) (c := 2) hf' (by omega) rfl (r.W n 2)).setW (i := f) (c := 3) hf' (by omega) rfl (r.W n 3)
        have KP : Hid (RKeeps B w1 ((((w1.setCell ⟨B.bw, f * 4, none⟩ (.int .i64 (r.W n 0))).setCell ⟨B.bw, f * 4 + 1, none⟩ (.int .i64 (r.W n 1))).setCell ⟨B.bw, f * 4 + 2, none⟩ (.int .i64 (r.W n 2))).setCell ⟨B.bw, f * 4 + 3, none⟩ (.int .i64 (r.W n 3)))) := ((((RKeeps.refl _).setW _ _).setW _ _).setW _ _).setW _ _
        generalize r.W n 0 = x0 at *
        generalize r.W n 1 = x1 at *
        generalize r.W n 2 = x2 at *
        generalize r.W n 3 = x3 at *
        go_wp2_with fail
        go_region_held3 (fun w' => w'.cell? ⟨B.b, 0, none⟩ = some (.slice (some ⟨B.bw, 0, none⟩) r.nF B.cw) ∧ w'.cell? ⟨B.bw, n * 4, none⟩ = some (.int .i64 x0) ∧ w'.cell? ⟨B.bw, n * 4 + 1, none⟩ = some (.int .i64 x1) ∧ w'.cell? ⟨B.bw, n * 4 + 2, none⟩ = some (.int .i64 x2) ∧ w'.cell? ⟨B.bw, n * 4 + 3, none⟩ = some (.int .i64 x3)) ((repeat' apply And.intro) <;> (first | (go_keep; done) | (refine drew_keep ?_; refine set_keep (by omega) ?_; refine set_keep (by omega) ?_; refine set_keep (by omega) ?_; refine set_keep (by omega) ?_; assumption))) (fail)
        have W2 : Hid (2 * (f : Int) + 2 - v % 2 = encP f (K.wr s p)) := by
          unfold Hid
          rw [Int.tmod_eq_emod_of_nonneg (by omega)] at hm
          rw [hm, encP_some]; split <;> omega
        clear hm
        go_wp2
        go_ret2
        refine REnds.mk E (M1.out.setP (i := c) (c := 4 + p) (o := c * 12 + 4 + p) hc' (by omega) (by omega) (2 * (f : Int) + 2 - v % 2)).drew ?_ (KP.out.setP _ _).drew
        rw [W2.out]
        exact rel_copy HU.out (K.wr s p) hp h2 hk h0
      · have E : Hid (kCopy K s c p f = ⟨K, 0, 5⟩) := by unfold kCopy Hid; rw [if_neg (by simp [he]), if_neg (by omega), if_pos (by omega)]
        have e0 : (K.F f 0 == 0) = false := by simpa using h0
        go_wp2_with fail
        refine (free_rep HM.out HU.out O N G hf).mono ?_
        rintro e w1 ⟨rfl, rfl⟩
        rw [e0]
        go_wp2
        go_ret2
        exact REnds.mk E HM.out HU.out (RKeeps.refl _)
    · have E : Hid (kCopy K s c p f = ⟨K, 0, 6⟩) := by unfold kCopy Hid; rw [if_neg (by simp [he]), if_pos (Or.inr (by omega))]
      obtain ⟨u, hu, hu0, hu1⟩ : ∃ u, r.P c (4 + p) = u ∧ 0 < u ∧ u < 100 := ⟨_, rfl, by omega, by have := EF.out; omega⟩
      rw [hu] at c2
      clear g3 hu
      go_wp2
      go_ret2
      exact REnds.mk E HM.out HU.out (RKeeps.refl _)

set_option maxHeartbeats 2000000 in
theorem undone_drop (M : RMem w B r) (U : Rel K r) (G : Good K) {s c p : Nat} (hc : c < K.nS) (hp : p < 4) (he : K.still s c = true) :
    Calls Tryz.prog 42 #[.pointer (some ⟨B.b, 0, none⟩), .int .i64 10, .int .i64 c, .int .i64 p] w (REnds B w (kDrop K s c p)) := by
  have HM : Hid (RMem w B r) := M
  have HU : Hid (Rel K r) := U
  have k1 := M.k1
  have hF : r.nF ≤ 32 := M.hF
  have EF : Hid (r.nF = K.nF ∧ r.nS = K.nS) := ⟨U.f, U.s⟩
  have hc' : c < r.nS := by have := U.s; omega
  have i1 : (0 : Int) ≤ (c : Int) := by omega
  have i2 : (c : Int) < (r.nS : Int) := by omega
  have j1 : (0 : Int) ≤ (p : Int) := by omega
  have j2 : (p : Int) < 4 := by omega
  have c1 : w.cell? ⟨B.bp, c * 12 + 4 + p, none⟩ = some (.int .i64 (r.P c (4 + p))) := by rw [Nat.add_assoc]; exact M.pr c (4 + p) hc' (by omega)
  have zp := M.zp
  clear M U
  go_enter Tryz.func42, Tryz.ntmps42
  rcases enc_cases G HU.out hc hp (by have := EF.out; omega) with ⟨h1, h2, h3⟩ | ⟨n, h1, h2, h3⟩
  · rw [h3] at c1
    have E : Hid (kDrop K s c p = ⟨K, 0, 6⟩) := by unfold kDrop Hid; rw [if_neg (by simp [he]), if_pos h1]
    go_wp2
    go_ret2
    exact REnds.mk E HM.out HU.out (RKeeps.refl _)
  · have E : Hid (kDrop K s c p = ⟨(K.become n 0 (-1)).setPage c p (-1) false, 0, 0⟩) := by unfold kDrop Hid; rw [if_neg (by simp [he]), if_neg (by omega)]; unfold Ker.freePage; rw [h1, Int.toNat_natCast]
    obtain ⟨v, hv, hv0, hv1⟩ : ∃ v, r.P c (4 + p) = v ∧ 0 < v ∧ v < 100 := ⟨_, rfl, by omega, by have := EF.out; omega⟩
    have ne : ¬ v = 0 := by omega
    rw [hv] at c1
    clear h3 hv
    go_wp2
    go_ret2
    have M1 := HM.out.setP (i := c) (c := 4 + p) (o := c * 12 + 4 + p) hc' (by omega) (by omega) 0
    refine REnds.mk E M1 ?_ ((RKeeps.refl _).setP _ _)
    have U2 := (HU.out.frees n 0 (-1) (by omega)).setPage c p (-1) false hp
    rw [encP_none] at U2
    exact U2
end
end Go.Proofs.YtcgabodkegcpgaaGreatDoor
