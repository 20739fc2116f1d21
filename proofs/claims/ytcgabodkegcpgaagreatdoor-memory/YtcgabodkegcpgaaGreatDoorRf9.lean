/- The reference's Pipe. -/
import Derived.Test.YtcgabodkegcpgaaGreatDoorRf8
namespace Go.Proofs.YtcgabodkegcpgaaGreatDoor
open Go.RowKit
set_option linter.unusedVariables false
set_option linter.unusedSimpArgs false
attribute [local go_sem ↓] Go.wp_at_zero Go.wp_at_succ

theorem setD_rest (K : Ker) (d c : Nat) (v : Int) : (K.setD d c v).nF = K.nF ∧ (K.setD d c v).nS = K.nS ∧ (K.setD d c v).nD = K.nD ∧ (K.setD d c v).S = K.S ∧ (K.setD d c v).B = K.B ∧ (K.setD d c v).F = K.F := ⟨rfl, rfl, rfl, rfl, rfl, rfl⟩
theorem noDuct_rest (K : Ker) (n : Nat) (f : Int) : (K.noDuct n f).nF = K.nF ∧ (K.noDuct n f).nS = K.nS ∧ (K.noDuct n f).nD = K.nD ∧ (K.noDuct n f).S = K.S ∧ (K.noDuct n f).B = K.B ∧ (K.noDuct n f).F = K.F := by
  unfold Ker.noDuct
  simp only [setD_rest, and_self]
theorem Rel.ring {K : Ker} {r : Rk} (U : Rel K r) (N : Neat K) {n : Nat} (f : Int) (hn : n < K.nD) (h0 : K.D n 0 = -1) : Rel (K.noDuct n f) (r.setR n 0 f) := by
  obtain ⟨e1, e2, e3, e4, e5, e6⟩ := noDuct_rest K n f
  have D1 := noDuct_D K n f
  generalize K.noDuct n f = K1 at *
  refine ⟨by rw [e1]; exact U.f, by rw [e2]; exact U.s, by rw [e3]; exact U.d, fun i c hi hc => ?_, fun g j hg hj hk => ?_, fun e q he hq => ?_⟩
  · rw [pNum_same e4 e5]; rw [e2] at hi; exact U.p i c hi hc
  · rw [e6] at hk ⊢; rw [e1] at hg; exact U.w g j hg hj hk
  · rw [e3] at he
    rw [D1]
    show upd r.R n 0 f e q = _
    unfold upd
    by_cases k : e = n
    · subst k
      rw [if_pos (show e = e ∧ q < 5 from ⟨rfl, by omega⟩)]
      have := N.duc e hn h0
      obtain rfl | rfl | rfl : q = 0 ∨ q = 1 ∨ q = 2 := by omega
      · simp
      · simp; rw [U.q e 1 hn (by omega)]; exact this.1
      · simp; rw [U.q e 2 hn (by omega)]; exact this.2
    · rw [if_neg (by omega), if_neg (by omega)]; exact U.q e q he hq
theorem rel_pipe {K : Ker} {r : Rk} (U : Rel K r) (N : Neat K) {s n f x : Nat} (hn : n < K.nD) (h0 : K.D n 0 = -1) (hx : x < 3) :
    Rel ((((K.become f 3 (-1)).noDuct n f).openFile s x n false).openFile s (x + 1) n true) ((((r.setR n 0 f).zero f).setP s (8 + x) (2 * (n : Int) + 1)).setP s (8 + (x + 1)) (2 * (n : Int) + 2)) := by
  have U1 := U.become f 3 (-1)
  have N1 := neat_become N f 3 (-1) (by omega)
  have d1 : (K.become f 3 (-1)).D n 0 = -1 := by rw [(D_become K f 3 (-1)).1]; exact h0
  have z1 := (D_become K f 3 (-1)).2
  generalize K.become f 3 (-1) = K1 at *
  have U2 := U1.ring N1 (f : Int) (by omega) d1
  generalize K1.noDuct n f = K2 at *
  have U3 := U2.openFile s x n false (by omega)
  generalize K2.openFile s x n false = K3 at *
  have U4 := U3.openFile s (x + 1) n true (by omega)
  rw [encP_some, encP_some] at U4
  exact U4

section
variable {w : World} {B : RB} {r : Rk} {K : Ker}
set_option maxRecDepth 100000 in
set_option maxHeartbeats 4000000 in
theorem files_pipe (M : RMem w B r) (U : Rel K r) (O : Own K) (I : Inv K) (N : Neat K) {s n f x : Nat} (hs : s < K.nS) (hn : n < K.nD) (hf : f < K.nF) (hx : x < 4) :
    Calls Tryz.prog 43 #[.pointer (some ⟨B.b, 0, none⟩), .int .i64 s, .int .i64 13, .int .i64 n, .int .i64 f, .int .i64 x] w (REnds B w (kPipe K s n f x)) := by
  have HM : Hid (RMem w B r) := M
  have HU : Hid (Rel K r) := U
  have k0 := M.k0
  have k1 := M.k1
  have hD : K.nD ≤ 4 := by have := M.hD; have := U.d; omega
  have hn' : n < r.nD := by have := U.d; omega
  have hs' : s < r.nS := by have := U.s; omega
  have hf' : f < r.nF := by have := U.f; omega
  have hF : r.nF ≤ 32 := M.hF
  have k2 : w.cell? ⟨B.b, 2, none⟩ = some (.slice (B.aq 0) r.nD (B.cq 0)) := M.k2 0 (by omega)
  rw [M.aq 0 (by omega) (by omega)] at k2
  have l1 : (0 : Int) ≤ (s : Int) := by omega
  have l2 : (s : Int) < (r.nS : Int) := by omega
  have m1 : (0 : Int) ≤ (n : Int) := by omega
  have m2 : (n : Int) < (r.nD : Int) := by omega
  have m3 : (n : Int) < 4 := by omega
  have f1 : (0 : Int) ≤ (f : Int) := by omega
  have f2 : (f : Int) < (r.nF : Int) := by omega
  have x1 : (0 : Int) ≤ (x : Int) := by omega
  have x2 : (x : Int) < 4 := by omega
  have c0 := M.rg n 0 hn' (by omega)
  rw [U.q n 0 hn (by omega)] at c0
  have c1 : w.cell? ⟨B.bp, s * 12 + 8 + x, none⟩ = some (.int .i64 (r.P s (8 + x))) := by rw [Nat.add_assoc]; exact M.pr s (8 + x) hs' (by omega)
  clear M U
  go_enter Tryz.func43, Tryz.ntmps43
  by_cases h0 : K.D n 0 = -1
  · rw [h0] at c0
    by_cases h1 : K.F f 0 = 0
    · have e0 : (K.F f 0 == 0) = true := by simpa using h1
      by_cases hx3 : x = 3
      · subst hx3
        have E : Hid (kPipe K s n f 3 = ⟨K, 0, 8⟩) := by unfold kPipe Hid; rw [if_neg (by omega), if_neg (by omega), if_pos (Or.inl rfl)]
        go_wp2_with fail
        refine (free_rep HM.out HU.out O N I.good hf).mono ?_
        rintro e w1 ⟨rfl, rfl⟩
        rw [e0]
        go_wp2
        go_ret2
        exact REnds.mk E HM.out HU.out (RKeeps.refl _)
      · have e3 : ((x : Int) == 3) = false := by simp; omega
        have y1 : (0 : Int) ≤ (x : Int) + 1 := by omega
        have y2 : (x : Int) + 1 < 4 := by omega
        have c2 : w.cell? ⟨B.bp, s * 12 + 8 + (x + 1), none⟩ = some (.int .i64 (r.P s (8 + (x + 1)))) := by rw [Nat.add_assoc]; exact HM.out.pr s (8 + (x + 1)) hs' (by omega)
        rcases file_cases I.good HU.out hs hx hD with ⟨g1, g2⟩ | ⟨m, g1, g2, g3, g4, g5, g6⟩
        · rw [g2] at c1
          rcases file_cases I.good HU.out hs (show x + 1 < 4 by omega) hD with ⟨q1, q2⟩ | ⟨m, q1, q2, q3, q4, q5, q6⟩
          · rw [q2] at c2
            have E : Hid (kPipe K s n f x = ⟨(((K.become f 3 (-1)).noDuct n f).openFile s x n false).openFile s (x + 1) n true, 0, 0⟩) := by unfold kPipe Hid; rw [if_neg (by omega), if_neg (by omega), if_neg (by omega)]
            go_wp2_with fail
            refine (free_rep HM.out HU.out O N I.good hf).mono ?_
            rintro e w1 ⟨rfl, rfl⟩
            rw [e0]
            have zp := HM.out.zp
            have zw := HM.out.zw
            have zq := fun o => HM.out.zq 0 o (by omega) (show 0 < r.nD by omega)
            have d0 : w1.cell? ⟨B.bw, f * 4, none⟩ = some (.int .i64 (r.W f 0)) := HM.out.wd f 0 hf' (by omega)
            have d1 := HM.out.wd f 1 hf' (by omega)
            have d2 := HM.out.wd f 2 hf' (by omega)
            have d3 := HM.out.wd f 3 hf' (by omega)
            have b1 := HM.out.bw
            have b2 := HM.out.bp
            have b3 := HM.out.bq 0 (by omega)
            have b4 := HM.out.wp
            have b5 := HM.out.wq 0 (by omega)
            have b6 := HM.out.pq 0 (by omega)
            have b7 := Ne.symm b1
            have b8 := Ne.symm b2
            have b9 := Ne.symm b3
            have b10 := Ne.symm b4
            have b11 := Ne.symm b5
            have b12 := Ne.symm b6
            go_wp2
            go_ret2
            have M1 := HM.out.setR (d := n) (q := 0) hn' (by omega) (f : Int)
            have M2 := (((M1.setW (i := f) (c := 0) (o := f * 4) hf' (by omega) (by omega) 0).setW (i := f) (c := 1) (o := f * 4 + 1) hf' (by omega) (by omega) 0).setW (i := f) (c := 2) (o := f * 4 + 2) hf' (by omega) (by omega) 0).setW (i := f) (c := 3) (o := f * 4 + 3) hf' (by omega) (by omega) 0
            have M3 := (M2.setP (i := s) (c := 8 + x) (o := s * 12 + 8 + x) hs' (by omega) (by omega) (2 * (n : Int) + 1)).setP (i := s) (c := 8 + (x + 1)) (o := s * 12 + 8 + (x + 1)) hs' (by omega) (by omega) (2 * (n : Int) + 2)
            exact REnds.mk E M3 (rel_pipe HU.out N hn h0 (by omega)) (((((((RKeeps.refl _).setR (q := 0) (by omega) _ _).setW _ _).setW _ _).setW _ _).setW _ _).setP _ _ |>.setP _ _)
          · have E : Hid (kPipe K s n f x = ⟨K, 0, 8⟩) := by unfold kPipe Hid; rw [if_neg (by omega), if_neg (by omega), if_pos (Or.inr (Or.inr (by omega)))]
            obtain ⟨v, hv⟩ : ∃ v, r.P s (8 + (x + 1)) = v := ⟨_, rfl⟩
            rw [hv] at c2 q5 q6
            clear q4 hv
            go_wp2_with fail
            refine (free_rep HM.out HU.out O N I.good hf).mono ?_
            rintro e w1 ⟨rfl, rfl⟩
            rw [e0]
            go_wp2
            go_ret2
            exact REnds.mk E HM.out HU.out (RKeeps.refl _)
        · have E : Hid (kPipe K s n f x = ⟨K, 0, 8⟩) := by unfold kPipe Hid; rw [if_neg (by omega), if_neg (by omega), if_pos (Or.inr (Or.inl (by omega)))]
          obtain ⟨v, hv⟩ : ∃ v, r.P s (8 + x) = v := ⟨_, rfl⟩
          rw [hv] at c1 g5 g6
          clear g4 hv c2
          go_wp2_with fail
          refine (free_rep HM.out HU.out O N I.good hf).mono ?_
          rintro e w1 ⟨rfl, rfl⟩
          rw [e0]
          go_wp2
          go_ret2
          exact REnds.mk E HM.out HU.out (RKeeps.refl _)
    · have E : Hid (kPipe K s n f x = ⟨K, 0, 5⟩) := by unfold kPipe Hid; rw [if_neg (by omega), if_pos (by omega)]
      have e0 : (K.F f 0 == 0) = false := by simpa using h1
      go_wp2_with fail
      refine (free_rep HM.out HU.out O N I.good hf).mono ?_
      rintro e w1 ⟨rfl, rfl⟩
      rw [e0]
      go_wp2
      go_ret2
      exact REnds.mk E HM.out HU.out (RKeeps.refl _)
  · have E : Hid (kPipe K s n f x = ⟨K, 0, 9⟩) := by unfold kPipe Hid; rw [if_pos (by omega)]
    obtain ⟨v, hv, hv0⟩ : ∃ v, K.D n 0 = v ∧ 0 ≤ v := ⟨_, rfl, by have := I.good.duct n hn; omega⟩
    rw [hv] at c0
    clear h0 hv
    go_wp2
    go_ret2
    exact REnds.mk E HM.out HU.out (RKeeps.refl _)
end
end Go.Proofs.YtcgabodkegcpgaaGreatDoor
