/- What the kernel's New does, at settings that may be. -/
import Derived.Test.YtcgabodkegcpgaaDoorNew2
import Derived.Test.YtcgabodkegcpgaaDoorInv1
import Derived.Deep.RegionHeld3
import Derived.Deep.DrawnRows
namespace Go.Proofs.YtcgabodkegcpgaaDoor
open Go.RowKit
set_option linter.unusedVariables false
attribute [local go_sem ↓] Go.wp_at_zero Go.wp_at_succ

theorem rep_base {w : World} {bk bf bs bd tk tf ts td nF nS nD : Nat} (hk : w.heap[bk]? = some (.cells #[.slice (some ⟨bf, 0, none⟩) nF nF, .slice (some ⟨bs, 0, none⟩) nS nS, .slice (some ⟨bd, 0, none⟩) nD nD] tk (0, 0)))
    (rf : w.rowIs bf tf (nF * 6) (fun j => ([.int .i64 0, .int .i64 (-1), .int .i64 0, .int .i64 0, .int .i64 0, .int .i64 0] : List Value).getD (j % 6) (.bool false)))
    (rs : w.rowIs bs ts (nS * 20) (fun j => noneCells.getD (j % 20) (.bool false)))
    (rd : w.rowIs bd td (nD * 5) (fun j => ([.int .i64 (-1), .int .i64 0, .int .i64 0, .int .i64 0, .int .i64 0] : List Value).getD (j % 5) (.bool false)))
    (kf : bk ≠ bf) (ks : bk ≠ bs) (kd : bk ≠ bd) (fs : bf ≠ bs) (fd : bf ≠ bd) (sd : bs ≠ bd) (hF : nF ≤ 32) (hS : nS ≤ 6) (hD : nD ≤ 4) : Rep w bk bf bs bd (kBase nF nS nD) := by
  have lk : bk < w.heap.size := (Array.getElem?_eq_some_iff.1 hk).1
  refine ⟨?_, ?_, ?_, ?_, ?_, ?_, ?_, rf.frozen, rs.frozen, rd.frozen, lk, rf.lt, rs.lt, rd.lt, kf, ks, kd, fs, fd, sd, hF, hS, hD⟩
  · rw [cell_of_row w bk 0 _ _ _ hk]; rfl
  · rw [cell_of_row w bk 1 _ _ _ hk]; rfl
  · rw [cell_of_row w bk 2 _ _ _ hk]; rfl
  · intro i c hi hc
    have hi' : i < nF := hi
    rw [rf.cell (by omega), show (i * 6 + c) % 6 = c by omega]
    obtain rfl | rfl | rfl | rfl | rfl | rfl : c = 0 ∨ c = 1 ∨ c = 2 ∨ c = 3 ∨ c = 4 ∨ c = 5 := by omega
    all_goals rfl
  · intro i c hi hc hb
    have hi' : i < nS := hi
    rw [rs.cell (by omega), show (i * 20 + c) % 20 = c by omega]
    obtain rfl | rfl | rfl | rfl | rfl | rfl | rfl | rfl | rfl | rfl | rfl | rfl : c = 0 ∨ c = 1 ∨ c = 2 ∨ c = 3 ∨ c = 5 ∨ c = 7 ∨ c = 9 ∨ c = 11 ∨ c = 13 ∨ c = 15 ∨ c = 17 ∨ c = 19 := by unfold isB at hb; omega
    all_goals rfl
  · intro i c hi hb
    have hi' : i < nS := hi
    have hc : c < 20 := by unfold isB at hb; omega
    rw [rs.cell (by omega), show (i * 20 + c) % 20 = c by omega]
    obtain rfl | rfl | rfl | rfl | rfl | rfl | rfl | rfl : c = 4 ∨ c = 6 ∨ c = 8 ∨ c = 10 ∨ c = 12 ∨ c = 14 ∨ c = 16 ∨ c = 18 := by unfold isB at hb; omega
    all_goals rfl
  · intro i c hi hc
    have hi' : i < nD := hi
    rw [rd.cell (by omega), show (i * 5 + c) % 5 = c by omega]
    obtain rfl | rfl | rfl | rfl | rfl : c = 0 ∨ c = 1 ∨ c = 2 ∨ c = 3 ∨ c = 4 := by omega
    all_goals rfl

theorem become_at {w : World} {bk bf bs bd : Nat} {K : Ker} (R : Rep w bk bf bs bd K) {i : Nat} {q : Int} (kd ow : Int) (hq : q = i) (hi : i < K.nF) :
    Calls Tryd.prog 29 #[.pointer (some ⟨bk, 0, none⟩), .int .i64 q, .int .i64 kd, .int .i64 ow] w fun e w' => e = .returned (.tuple #[]) ∧ Rep w' bk bf bs bd (K.become i kd ow) ∧ Keeps bf bs bd w w' := by
  subst hq; exact become_rep R kd ow hi

set_option maxHeartbeats 2000000 in
theorem new_any (nF nS nD : Nat) (h1 : 2 ≤ nF) (h2 : nF ≤ 32) (h3 : 1 ≤ nS) (h4 : nS ≤ 6) (h5 : nD ≤ 4) (w : World) :
    Calls Tryd.prog 10 #[.agg #[.int .i64 nF, .int .i64 nS, .int .i64 nD]] w fun e w' => ∃ bk bf bs bd, e = .returned (.tuple #[.pointer (some ⟨bk, 0, none⟩), .int .i64 0]) ∧ Rep w' bk bf bs bd (kNew nF nS nD) ∧ Below w.heap.size w w' ∧ w.heap.size ≤ bk ∧ w.heap.size ≤ bf ∧ w.heap.size ≤ bs ∧ w.heap.size ≤ bd := by
  have e1 : withinB nF 2 32 = true := by unfold withinB; simp; omega
  have e2 : withinB nS 1 6 = true := by unfold withinB; simp; omega
  have e3 : withinB nD 0 4 = true := by unfold withinB; simp; omega
  go_enter Tryd.func10, Tryd.ntmps10
  go_wp2_with fail
  refine (within_any _ _ _ _).mono ?_
  rintro e w1 ⟨rfl, rfl⟩
  go_wp2_with fail
  refine (within_any _ _ _ _).mono ?_
  rintro e w1 ⟨rfl, rfl⟩
  go_wp2_with fail
  refine (within_any _ _ _ _).mono ?_
  rintro e w1 ⟨rfl, rfl⟩
  go_wp2_with fail
  go_region_held3 (fun w' => w'.cell? ⟨w.heap.size, 0, none⟩ = some (.int .i64 nF) ∧ w'.cell? ⟨w.heap.size, 1, none⟩ = some (.int .i64 nS) ∧ w'.cell? ⟨w.heap.size, 2, none⟩ = some (.int .i64 nD)) (go_keep)
    (first | (go_at_call 25; go_must (refine (filledFrame_any nF h2 [.int .i64 0, .int .i64 (-1), .int .i64 0, .int .i64 0, .int .i64 0, .int .i64 0] rfl (by kernel_rfl) _).mono ?_); rintro e w1 ⟨rfl, b1, z1, r1⟩; go_must (have q1 := fun o => b1.cell (p := ⟨w.heap.size, o, none⟩) (by simp))) | (go_at_call 27; refine (emptySlot_any _).mono ?_; rintro e w2 ⟨rfl, b2⟩; have q2 := fun o => b2.cell (p := ⟨w.heap.size, o, none⟩) (by rw [z1]; simp; omega); have z2 := b2.size) | (go_at_call 26; refine (filledSlot_any nS (by omega) noneCells noneCells_len noneCells_one _).mono ?_; rintro e w3 ⟨rfl, b3, z3, r3⟩; have q3 := fun o => b3.cell (p := ⟨w.heap.size, o, none⟩) (by rw [z1] at z2; simp at z2; show w.heap.size < _; omega)) | (go_at_call 28; refine (filledDuct_any nD (by omega) [.int .i64 (-1), .int .i64 0, .int .i64 0, .int .i64 0, .int .i64 0] rfl (by kernel_rfl) _).mono ?_; rintro e w4 ⟨rfl, b4, z4, r4⟩; have q4 := fun o => b4.cell (p := ⟨w.heap.size, o, none⟩) (by rw [z1] at z2; simp at z2; show w.heap.size < _; omega)))
  have y1 : w1.heap.size = w.heap.size + 3 := by rw [z1]; show (w.alloc _).heap.size + 2 = _; simp
  have y2 : w.heap.size + 3 ≤ w2.heap.size := by omega
  have r1' := r1
  rw [show ((w.alloc (.cells #[.int .i64 nF, .int .i64 nS, .int .i64 nD] 30)).drew.heap.size + 1) = w.heap.size + 2 from by show (w.alloc _).heap.size + 1 = _; simp] at r1'
  have x1 := ((r1'.of_block (b2.block _ (by omega))).of_block (b3.block _ (by omega))).of_block (b4.block _ (by omega))
  have x3 := r3.of_block (b4.block _ (by omega))
  have HB : Hid (Below w.heap.size w w4) := by
    have b0 : Below w.heap.size w (w.alloc (.cells #[.int .i64 nF, .int .i64 nS, .int .i64 nD] 30)).drew := ((Below.refl _ _).alloc (Nat.le_refl _) _).drew
    exact (((b0.trans (b1.mono (by show _ ≤ (w.alloc _).heap.size; simp))).trans (b2.mono (by omega))).trans (b3.mono (by omega))).trans (b4.mono (by omega))
  have y4 : w4.heap.size = w2.heap.size + 2 + 2 := by omega
  have r4' := r4
  rw [show w3.heap.size + 1 = w2.heap.size + 2 + 1 by omega] at r4'
  have hk4 := heap_alloc_new w4 (.cells #[.slice (some ⟨w.heap.size + 1 + 1, 0, none⟩) nF nF, .slice (some ⟨w2.heap.size + 1, 0, none⟩) nS nS, .slice (some ⟨w2.heap.size + 2 + 1, 0, none⟩) nD nD] 86)
  rw [y4] at hk4
  have HR : Hid (Rep (w4.alloc (.cells #[.slice (some ⟨w.heap.size + 1 + 1, 0, none⟩) nF nF, .slice (some ⟨w2.heap.size + 1, 0, none⟩) nS nS, .slice (some ⟨w2.heap.size + 2 + 1, 0, none⟩) nD nD] 86)) (w2.heap.size + 2 + 2) (w.heap.size + 1 + 1) (w2.heap.size + 1) (w2.heap.size + 2 + 1) (kBase nF nS nD)) :=
    rep_base hk4 (x1.alloc _) (x3.alloc _) (r4'.alloc _) (by omega) (by omega) (by omega) (by omega) (by omega) (by omega) h2 h4 h5
  have HB' : Hid (Below w.heap.size w (w4.alloc (.cells #[.slice (some ⟨w.heap.size + 1 + 1, 0, none⟩) nF nF, .slice (some ⟨w2.heap.size + 1, 0, none⟩) nS nS, .slice (some ⟨w2.heap.size + 2 + 1, 0, none⟩) nD nD] 86))) := HB.out.alloc (by omega) _
  have Hz : Hid (w.heap.size + 1 + 1 < w4.heap.size) := by unfold Hid; omega
  have Hy : Hid (w.heap.size + 3 ≤ w2.heap.size) := y2
  clear b1 z1 r1 q1 b2 q2 z2 b3 z3 r3 q3 b4 z4 r4 q4 y1 y2 r1' x1 x3 y4 r4' hk4
  go_wp2_with fail
  refine (become_at (i := 0) HR.out 1 0 rfl (show 0 < nF by omega)).mono ?_
  rintro e w5 ⟨rfl, R5, k5⟩
  have s0 : 0 < ((kBase nF nS nD).become 0 1 0).nS := by show 0 < nS; omega
  have s1 : ((kBase nF nS nD).become 0 1 0).nS ≤ 6 := h4
  have p1 := R5.k1
  have p2 := R5.sk s0
  have p3 := R5.st s0
  simp only [Nat.zero_mul, Nat.zero_add] at p2 p3
  have p4 := R5.zs
  have HR5 : Hid _ := R5
  have Hk5 : Hid _ := k5
  clear R5 k5
  generalize hK1 : (kBase nF nS nD).become 0 1 0 = K1 at *
  have HK1 : Hid (_ = K1) := hK1
  clear hK1
  go_wp2
  go_ret2
  have h := Hy.out
  have h' := Hz.out
  refine ⟨w2.heap.size + 2 + 2, w.heap.size + 1 + 1, w2.heap.size + 1, w2.heap.size + 2 + 1, rfl, ?_, ?_, ?_, ?_, ?_, ?_⟩
  · unfold kNew
    rw [HK1.out]
    exact (HR5.out.setS (c := 0) s0 (by omega) not_isB0 rfl 2).setS (c := 2) s0 (by omega) not_isB2 rfl 0
  · exact ((HB'.out.trans (Hk5.out.below (by simp; omega) (by omega) (by omega) (by omega))).setCell (by show w.heap.size ≤ w2.heap.size + 1; omega) _).setCell (by show w.heap.size ≤ w2.heap.size + 1; omega) _
  all_goals omega
end Go.Proofs.YtcgabodkegcpgaaDoor
