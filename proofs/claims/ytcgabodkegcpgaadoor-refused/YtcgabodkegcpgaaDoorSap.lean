/- Comparing two states that State gave. -/
import Derived.Test.YtcgabodkegcpgaaDoorSao
namespace Go.Proofs.YtcgabodkegcpgaaDoor
open Go.RowKit
set_option linter.unusedVariables false
attribute [local go_sem ↓] Go.wp_at_zero Go.wp_at_succ

theorem cmpF (K K' : Ker) (k : Nat) : ∃ r, Cmp 75 (cut (fCell K) (k * 6) 6) (cut (fCell K') (k * 6) 6) r ∧ (cut (fCell K) (k * 6) 6 = cut (fCell K') (k * 6) 6 → r = true) :=
  cmp_of (same_frame (d := 9997) (fun j hj => ⟨_, cut_get _ _ _ _ hj⟩) (fun j hj => ⟨_, cut_get _ _ _ _ hj⟩))
theorem cmpD (K K' : Ker) (k : Nat) : ∃ r, Cmp 84 (cut (dCell K) (k * 5) 5) (cut (dCell K') (k * 5) 5) r ∧ (cut (dCell K) (k * 5) 5 = cut (dCell K') (k * 5) 5 → r = true) :=
  cmp_of (same_duct (d := 9998) (fun j hj => ⟨_, cut_get _ _ _ _ hj⟩) (fun j hj => ⟨_, cut_get _ _ _ _ hj⟩))
theorem sCell_int (K : Ker) (k j : Nat) (h : j < 20) (hj : ¬ (4 ≤ j ∧ j ≤ 18 ∧ j % 2 = 0)) : IntAt (cut (sCell K) (k * 20) 20).toArray j :=
  ⟨_, by rw [cut_get _ _ _ _ h, sCell, show (k * 20 + j) % 20 = j by omega, if_neg hj]⟩
theorem sCell_bool (K : Ker) (k j : Nat) (h : j < 20) (hj : 4 ≤ j ∧ j ≤ 18 ∧ j % 2 = 0) : BoolAt (cut (sCell K) (k * 20) 20).toArray j :=
  ⟨_, by rw [cut_get _ _ _ _ h, sCell, show (k * 20 + j) % 20 = j by omega, if_pos hj]⟩
theorem slotAt (K : Ker) (k : Nat) : SlotAt (cut (sCell K) (k * 20) 20).toArray :=
  ⟨sCell_int K k 0 (by omega) (by omega), sCell_int K k 1 (by omega) (by omega), sCell_int K k 2 (by omega) (by omega), fun i hi => ⟨sCell_int K k _ (by omega) (by omega), sCell_bool K k _ (by omega) (by omega)⟩, fun i hi => ⟨sCell_int K k _ (by omega) (by omega), sCell_bool K k _ (by omega) (by omega)⟩, sCell_int K k 19 (by omega) (by omega)⟩
theorem cmpS (K K' : Ker) (k : Nat) : ∃ r, Cmp 55 (cut (sCell K) (k * 20) 20) (cut (sCell K') (k * 20) 20) r ∧ (cut (sCell K) (k * 20) 20 = cut (sCell K') (k * 20) 20 → r = true) :=
  cmp_of (same_slot (d := 9996) (slotAt K k) (slotAt K' k))

theorem below_then {B n : Nat} {a b c : World} (h : Below B a b) (k : Below n b c) (hn : B ≤ n) : Below B a c :=
  h.trans ⟨k.os, k.tape, k.output, k.size, fun i hi => k.block i (Nat.lt_of_lt_of_le hi hn)⟩
theorem below_cell {n : Nat} {W w1 : World} (b : Below n W w1) {g o : Nat} {v : Value} (hg : g < n) (h : W.cell? ⟨g, o, none⟩ = some v) : w1.cell? ⟨g, o, none⟩ = some v :=
  (World.cell?_of_block (w := W) (a := ⟨g, o, none⟩) (b.block g hg)).trans h
theorem row_lt {w : World} {g t n : Nat} {f : Nat → Value} (h : w.rowIs g t n f) : g < w.heap.size := h.lt

theorem sameState_any (w : World) (K K' : Ker) (hF : K.nF ≤ 32) (hS : K.nS ≤ 32) (hD : K.nD ≤ 32) (eF : K'.nF = K.nF) (eS : K'.nS = K.nS) (eD : K'.nD = K.nD) (gF gS gD kF kS kD : Nat) (S1 : Snap w gF gS gD K) (S2 : Snap w kF kS kD K') :
    Calls Tryd.prog 14 #[stVal K gF gS gD, stVal K' kF kS kD] w fun e w' => ∃ r, e = .returned (.bool r) ∧ (K' = K → r = true) ∧ Below w.heap.size w w' := by
  unfold stVal
  have s2f := S2.f
  have s2s := S2.s
  have s2d := S2.d
  rw [eF] at s2f ⊢
  rw [eS] at s2s ⊢
  rw [eD] at s2d ⊢
  have H1 : Hid (Snap w gF gS gD K) := S1
  have H2 : Hid (w.rowIs kF 75 (K.nF * 6) (fCell K') ∧ w.rowIs kS 55 (K.nS * 20) (sCell K') ∧ w.rowIs kD 84 (K.nD * 5) (dCell K')) := ⟨s2f, s2s, s2d⟩
  clear S1 S2 s2f s2s s2d eF eS eD
  go_enter Tryd.func14, Tryd.ntmps14
  go_wp2_with fail
  obtain ⟨W, eW⟩ : ∃ W, W = (w.alloc (.cells #[.slice (some ⟨gF, 0, none⟩) K.nF K.nF, .slice (some ⟨gS, 0, none⟩) K.nS K.nS, .slice (some ⟨gD, 0, none⟩) K.nD K.nD] 45)).alloc (.cells #[.slice (some ⟨kF, 0, none⟩) K.nF K.nF, .slice (some ⟨kS, 0, none⟩) K.nS K.nS, .slice (some ⟨kD, 0, none⟩) K.nD K.nD] 45) := ⟨_, rfl⟩
  have y1 : W.cell? ⟨w.heap.size, 1, none⟩ = some (.slice (some ⟨gS, 0, none⟩) K.nS K.nS) := by rw [eW, World.cell?_alloc2_first]; rfl
  have y2 : W.cell? ⟨w.heap.size, 2, none⟩ = some (.slice (some ⟨gD, 0, none⟩) K.nD K.nD) := by rw [eW, World.cell?_alloc2_first]; rfl
  have z1 : W.cell? ⟨w.heap.size + 1, 1, none⟩ = some (.slice (some ⟨kS, 0, none⟩) K.nS K.nS) := by rw [eW, World.cell?_alloc2_new]; rfl
  have z2 : W.cell? ⟨w.heap.size + 1, 2, none⟩ = some (.slice (some ⟨kD, 0, none⟩) K.nD K.nD) := by rw [eW, World.cell?_alloc2_new]; rfl
  have HW : Hid (Below w.heap.size w W ∧ W.heap.size = w.heap.size + 2) := by
    rw [eW]; exact ⟨((Below.refl _ _).alloc (Nat.le_refl _) _).alloc (by simp) _, by simp⟩
  rw [← eW]
  clear eW
  have Y1 : Hid (W.cell? ⟨w.heap.size, 1, none⟩ = some (.slice (some ⟨gS, 0, none⟩) K.nS K.nS)) := y1
  have Y2 : Hid (W.cell? ⟨w.heap.size, 2, none⟩ = some (.slice (some ⟨gD, 0, none⟩) K.nD K.nD)) := y2
  have Z1 : Hid (W.cell? ⟨w.heap.size + 1, 1, none⟩ = some (.slice (some ⟨kS, 0, none⟩) K.nS K.nS)) := z1
  have Z2 : Hid (W.cell? ⟨w.heap.size + 1, 2, none⟩ = some (.slice (some ⟨kD, 0, none⟩) K.nD K.nD)) := z2
  clear y1 y2 z1 z2
  refine (sameFrames_any W K.nF gF kF hF (fCell K) (fCell K') (H1.out.f.of_block (HW.out.1.block _ (row_lt H1.out.f))) (H2.out.1.of_block (HW.out.1.block _ (row_lt H2.out.1))) (fun k _ => cmpF K K' k)).mono ?_
  rintro e w1 ⟨r1, rfl, q1, b1⟩
  have Q1 : Hid (K' = K → r1 = true) := fun h => q1 (fun j _ => by rw [h])
  have HB1 : Hid (Below w.heap.size w w1 ∧ w.heap.size + 2 ≤ w1.heap.size) := ⟨below_then HW.out.1 b1 (by have := HW.out.2; omega), by have := HW.out.2; have := b1.size; omega⟩
  have y1 := below_cell b1 (by have := HW.out.2; omega) Y1.out
  have z1 := below_cell b1 (by have := HW.out.2; omega) Z1.out
  have Y3 : Hid (w1.cell? ⟨w.heap.size, 2, none⟩ = some (.slice (some ⟨gD, 0, none⟩) K.nD K.nD)) := below_cell b1 (by have := HW.out.2; omega) Y2.out
  have Z3 : Hid (w1.cell? ⟨w.heap.size + 1, 2, none⟩ = some (.slice (some ⟨kD, 0, none⟩) K.nD K.nD)) := below_cell b1 (by have := HW.out.2; omega) Z2.out
  clear q1 b1
  go_wp2_with fail
  refine (sameSlots_any w1 K.nS gS kS hS (sCell K) (sCell K') (H1.out.s.of_block (HB1.out.1.block _ (row_lt H1.out.s))) (H2.out.2.1.of_block (HB1.out.1.block _ (row_lt H2.out.2.1))) (fun k _ => cmpS K K' k)).mono ?_
  rintro e w2 ⟨r2, rfl, q2, b2⟩
  have Q2 : Hid (K' = K → r2 = true) := fun h => q2 (fun j _ => by rw [h])
  have HB2 : Hid (Below w.heap.size w w2) := below_then HB1.out.1 b2 (by have := HB1.out.2; omega)
  have y2 := below_cell b2 (by have := HB1.out.2; omega) Y3.out
  have z2 := below_cell b2 (by have := HB1.out.2; omega) Z3.out
  clear q2 b2
  go_wp2_with fail
  refine (sameDucts_any w2 K.nD gD kD hD (dCell K) (dCell K') (H1.out.d.of_block (HB2.out.block _ (row_lt H1.out.d))) (H2.out.2.2.of_block (HB2.out.block _ (row_lt H2.out.2.2))) (fun k _ => cmpD K K' k)).mono ?_
  rintro e w3 ⟨r3, rfl, q3, b3⟩
  have Q3 : Hid (K' = K → r3 = true) := fun h => q3 (fun j _ => by rw [h])
  have HB3 : Hid (Below w.heap.size w w3) := below_then HB2.out b3 HB2.out.size
  clear q3 b3
  cases r1 <;> cases r2 <;> cases r3
  all_goals go_wp2
  all_goals go_ret
  all_goals first | exact ⟨true, rfl, fun _ => rfl, HB3.out⟩ | exact ⟨false, rfl, fun h => Q1.out h, HB3.out⟩ | exact ⟨false, rfl, fun h => Q2.out h, HB3.out⟩ | exact ⟨false, rfl, fun h => Q3.out h, HB3.out⟩
end Go.Proofs.YtcgabodkegcpgaaDoor
