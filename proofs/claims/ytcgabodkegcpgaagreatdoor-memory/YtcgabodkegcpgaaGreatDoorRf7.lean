/- How the reference sweeps pipes without an end; its Shut, Close, Dup. -/
import Derived.Test.YtcgabodkegcpgaaGreatDoorRf6
namespace Go.Proofs.YtcgabodkegcpgaaGreatDoor
open Go.RowKit
set_option linter.unusedVariables false
set_option linter.unusedSimpArgs false
attribute [local go_sem ↓] Go.wp_at_zero Go.wp_at_succ

def Rk.swept (r : Rk) (K : Ker) (n : Nat) : Rk := { r with R := fun i q => if i < n ∧ K.ends i false = 0 ∧ K.ends i true = 0 then (if q = 0 then -1 else 0) else r.R i q }
theorem swept_zero (r : Rk) (K : Ker) : r.swept K 0 = r := by
  unfold Rk.swept
  have : (fun i q => if i < 0 ∧ K.ends i false = 0 ∧ K.ends i true = 0 then (if q = 0 then (-1 : Int) else 0) else r.R i q) = r.R := by
    funext i q; rw [if_neg (by omega)]
  rw [this]
theorem swept_keep (r : Rk) (K : Ker) (k : Nat) (h : ¬ (K.ends k false = 0 ∧ K.ends k true = 0)) : r.swept K (k + 1) = r.swept K k := by
  unfold Rk.swept
  congr 1
  funext i q
  by_cases e : i < k ∧ K.ends i false = 0 ∧ K.ends i true = 0
  · rw [if_pos e, if_pos ⟨by omega, e.2⟩]
  · rw [if_neg e, if_neg]
    intro e'
    by_cases hk : i = k
    · subst hk; exact h e'.2
    · exact e ⟨by omega, e'.2⟩
theorem swept_set (r : Rk) (K : Ker) (k : Nat) (h : K.ends k false = 0 ∧ K.ends k true = 0) (B : RB) {w : World} (M : RMem w B (((r.swept K k).setR k 0 (-1)).setR k 1 0 |>.setR k 2 0)) : RMem w B (r.swept K (k + 1)) := by
  refine ⟨M.k0, M.k1, M.k2, M.aq, M.wd, M.pr, fun d q hd hq => ?_, M.zw, M.zp, M.zq, M.lb, M.lw, M.lp, M.lq, M.bw, M.bp, M.bq, M.wp, M.wq, M.pq, M.qq, M.hF, M.hS, M.hD⟩
  rw [M.rg d q hd hq]
  congr 2
  show upd (upd (upd (r.swept K k).R k 0 (-1)) k 1 0) k 2 0 d q = if d < k + 1 ∧ K.ends d false = 0 ∧ K.ends d true = 0 then (if q = 0 then (-1 : Int) else 0) else r.R d q
  unfold upd Rk.swept
  by_cases e : d = k
  · subst e
    rw [if_pos (show d < d + 1 ∧ _ ∧ _ from ⟨by omega, h⟩)]
    obtain rfl | rfl | rfl : q = 0 ∨ q = 1 ∨ q = 2 := by omega
    all_goals simp
  · rw [if_neg (by omega), if_neg (by omega), if_neg (by omega)]
    show (if d < k ∧ K.ends d false = 0 ∧ K.ends d true = 0 then (if q = 0 then (-1 : Int) else 0) else r.R d q) = _
    by_cases e2 : d < k ∧ K.ends d false = 0 ∧ K.ends d true = 0
    · rw [if_pos e2, if_pos (show d < k + 1 ∧ K.ends d false = 0 ∧ K.ends d true = 0 from ⟨by omega, e2.2⟩)]
    · rw [if_neg e2, if_neg (fun e3 => e2 ⟨by omega, e3.2⟩)]

section
variable {w : World} {B : RB} {r : Rk} {K : Ker}
set_option maxHeartbeats 4000000 in
theorem swept_rep (M : RMem w B r) (us : r.nS = K.nS) (uf : ∀ i x, i < K.nS → x < 4 → r.P i (8 + x) = encP (K.file i x) (K.end i x)) (gf : ∀ i x, i < K.nS → x < 4 → K.file i x = -1 ∨ 0 ≤ K.file i x) :
    Calls Tryz.prog 79 #[.pointer (some ⟨B.b, 0, none⟩)] w fun e w' => e = .returned (.tuple #[]) ∧ RMem w' B (r.swept K r.nD) ∧ RKeeps B w w' := by
  have HM : Hid (RMem w B r) := M
  have HS : Hid (r.nS = K.nS) := us
  have HF : Hid (∀ i x, i < K.nS → x < 4 → r.P i (8 + x) = encP (K.file i x) (K.end i x)) := uf
  have HG : Hid (∀ i x, i < K.nS → x < 4 → K.file i x = -1 ∨ 0 ≤ K.file i x) := gf
  have hD : r.nD ≤ 4 := M.hD
  have S6 : r.nS ≤ 6 := M.hS
  have CL : Hid (∀ k b, K.ends k b ≤ 24) := fun k b => by
    have := countTo_le (K.isEnd k b) (K.nS * 4)
    unfold Ker.ends; omega
  clear M us uf gf
  go_enter Tryz.func79, Tryz.ntmps79
  go_wp2
  go_loopw [2] (fun i w' => ∃ k : Nat, k ≤ r.nD ∧ i = .int .i64 k ∧ RMem w' B (r.swept K k) ∧ RKeeps B w w') (fun i _ => r.nD - (intOf i).toNat)
  case atStart => exact ⟨0, by omega, rfl, by rw [swept_zero]; exact HM.out, RKeeps.refl _⟩
  case round =>
    clear HM
    obtain ⟨k, hk, rfl, m1, p1⟩ := hrel
    have HM1 : Hid (RMem wr B (r.swept K k)) := m1
    have HP1 : Hid (RKeeps B w wr) := p1
    have k2 : wr.cell? ⟨B.b, 2, none⟩ = some (.slice (B.aq 0) r.nD (B.cq 0)) := m1.k2 0 (by omega)
    have k3 : wr.cell? ⟨B.b, 3, none⟩ = some (.slice (B.aq 1) r.nD (B.cq 1)) := m1.k2 1 (by omega)
    have k4 : wr.cell? ⟨B.b, 4, none⟩ = some (.slice (B.aq 2) r.nD (B.cq 2)) := m1.k2 2 (by omega)
    clear m1 p1
    by_cases hlt : k < r.nD
    · have j1 : (0 : Int) ≤ (k : Int) := by omega
      have j2 : (k : Int) < (r.nD : Int) := by omega
      have aq0 := HM1.out.aq 0 (by omega) (show 0 < r.nD by omega)
      have aq1 := HM1.out.aq 1 (by omega) (show 0 < r.nD by omega)
      have aq2 := HM1.out.aq 2 (by omega) (show 0 < r.nD by omega)
      rw [aq0] at k2
      rw [aq1] at k3
      rw [aq2] at k4
      clear aq0 aq1 aq2
      go_wp2_with fail
      refine (ends_by HM1.out HS.out HF.out HG.out (d := k) (by omega) false).mono ?_
      rintro e w1 ⟨rfl, rfl⟩
      have h1 := CL.out k false
      have h2 := CL.out k true
      go_wp2_with fail
      refine (ends_by HM1.out HS.out HF.out HG.out (d := k) (by omega) true).mono ?_
      rintro e w2 ⟨rfl, rfl⟩
      by_cases hz : K.ends k false = 0 ∧ K.ends k true = 0
      · rw [hz.1, hz.2]
        have Hz : Hid (K.ends k false = 0 ∧ K.ends k true = 0) := hz
        have r0 := HM1.out.rg k 0 hlt (by omega)
        have r1 := HM1.out.rg k 1 hlt (by omega)
        have r2 := HM1.out.rg k 2 hlt (by omega)
        have z0 := fun o => HM1.out.zq 0 o (by omega) (show 0 < r.nD by omega)
        have z1 := fun o => HM1.out.zq 1 o (by omega) (show 0 < r.nD by omega)
        have z2 := fun o => HM1.out.zq 2 o (by omega) (show 0 < r.nD by omega)
        have n0 := HM1.out.bq 0 (by omega)
        have n1 := HM1.out.bq 1 (by omega)
        have n2 := HM1.out.bq 2 (by omega)
        have n3 := HM1.out.qq 0 1 (by omega) (by omega) (by omega)
        have n4 := HM1.out.qq 0 2 (by omega) (by omega) (by omega)
        have n5 := HM1.out.qq 1 2 (by omega) (by omega) (by omega)
        have n6 := Ne.symm n0
        have n7 := Ne.symm n1
        have n8 := Ne.symm n2
        have n9 := Ne.symm n3
        have n10 := Ne.symm n4
        have n11 := Ne.symm n5
        clear hz h1 h2
        go_wp2
        refine ⟨⟨k + 1, by omega, by go_num, swept_set r K k Hz.out B (((HM1.out.setR (d := k) (q := 0) hlt (by omega) (-1)).setR (d := k) (q := 1) hlt (by omega) 0).setR (d := k) (q := 2) hlt (by omega) 0), ((HP1.out.setR (q := 0) (by omega) _ _).setR (q := 1) (by omega) _ _).setR (q := 2) (by omega) _ _⟩, by simp [intOf]; omega⟩
      · have Hz : Hid (r.swept K (k + 1) = r.swept K k) := swept_keep r K k hz
        have e0 : (((K.ends k false : Nat) : Int) + ((K.ends k true : Nat) : Int) == 0) = false := by simp; omega
        clear hz
        generalize K.ends k false = a1 at *
        generalize K.ends k true = a2 at *
        go_wp2
        exact ⟨⟨k + 1, by omega, by go_num, by rw [Hz.out]; exact HM1.out, HP1.out⟩, by simp [intOf]; omega⟩
    · obtain rfl : k = r.nD := by omega
      go_wp2
      go_end0
      exact ⟨rfl, HM1.out, HP1.out⟩
end
end Go.Proofs.YtcgabodkegcpgaaGreatDoor
