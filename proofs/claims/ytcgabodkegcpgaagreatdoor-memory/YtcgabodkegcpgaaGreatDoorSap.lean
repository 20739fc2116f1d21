/- Comparing two states that State gave. -/
import Derived.Test.YtcgabodkegcpgaaGreatDoorSao
import Derived.Test.YtcgabodkegcpgaaGreatDoorRnw
namespace Go.Proofs.YtcgabodkegcpgaaGreatDoor
open Go.RowKit
set_option linter.unusedVariables false
attribute [local go_sem ↓] Go.wp_at_zero Go.wp_at_succ

theorem cmpF (K K' : Ker) (k : Nat) : ∃ r, Cmp 71 (cut (fCell K) (k * 6) 6) (cut (fCell K') (k * 6) 6) r ∧ (cut (fCell K) (k * 6) 6 = cut (fCell K') (k * 6) 6 → r = true) :=
  cmp_of (same_frame (d := 9997) (fun j hj => ⟨_, cut_get _ _ _ _ hj⟩) (fun j hj => ⟨_, cut_get _ _ _ _ hj⟩))
theorem cmpD (K K' : Ker) (k : Nat) : ∃ r, Cmp 87 (cut (dCell K) (k * 5) 5) (cut (dCell K') (k * 5) 5) r ∧ (cut (dCell K) (k * 5) 5 = cut (dCell K') (k * 5) 5 → r = true) :=
  cmp_of (same_duct (d := 9998) (fun j hj => ⟨_, cut_get _ _ _ _ hj⟩) (fun j hj => ⟨_, cut_get _ _ _ _ hj⟩))
theorem sCell_int (K : Ker) (k j : Nat) (h : j < 20) (hj : ¬ (4 ≤ j ∧ j ≤ 18 ∧ j % 2 = 0)) : IntAt (cut (sCell K) (k * 20) 20).toArray j :=
  ⟨_, by rw [cut_get _ _ _ _ h, sCell, show (k * 20 + j) % 20 = j by omega, if_neg hj]⟩
theorem sCell_bool (K : Ker) (k j : Nat) (h : j < 20) (hj : 4 ≤ j ∧ j ≤ 18 ∧ j % 2 = 0) : BoolAt (cut (sCell K) (k * 20) 20).toArray j :=
  ⟨_, by rw [cut_get _ _ _ _ h, sCell, show (k * 20 + j) % 20 = j by omega, if_pos hj]⟩
theorem slotAt (K : Ker) (k : Nat) : SlotAt (cut (sCell K) (k * 20) 20).toArray :=
  ⟨sCell_int K k 0 (by omega) (by omega), sCell_int K k 1 (by omega) (by omega), sCell_int K k 2 (by omega) (by omega), fun i hi => ⟨sCell_int K k _ (by omega) (by omega), sCell_bool K k _ (by omega) (by omega)⟩, fun i hi => ⟨sCell_int K k _ (by omega) (by omega), sCell_bool K k _ (by omega) (by omega)⟩, sCell_int K k 19 (by omega) (by omega)⟩
theorem cmpS (K K' : Ker) (k : Nat) : ∃ r, Cmp 82 (cut (sCell K) (k * 20) 20) (cut (sCell K') (k * 20) 20) r ∧ (cut (sCell K) (k * 20) 20 = cut (sCell K') (k * 20) 20 → r = true) :=
  cmp_of (same_slot (d := 9996) (slotAt K k) (slotAt K' k))

theorem below_then {B n : Nat} {a b c : World} (h : Below B a b) (k : Below n b c) (hn : B ≤ n) : Below B a c :=
  h.trans ⟨k.os, k.tape, k.output, k.size, fun i hi => k.block i (Nat.lt_of_lt_of_le hi hn)⟩
theorem below_cell {n : Nat} {W w1 : World} (b : Below n W w1) {g o : Nat} {v : Value} (hg : g < n) (h : W.cell? ⟨g, o, none⟩ = some v) : w1.cell? ⟨g, o, none⟩ = some v :=
  (World.cell?_of_block (w := W) (a := ⟨g, o, none⟩) (b.block g hg)).trans h
theorem row_lt {w : World} {g t n : Nat} {f : Nat → Value} (h : w.rowIs g t n f) : g < w.heap.size := h.lt

theorem sameState_any (w : World) (K K' : Ker) (hF : K.nF ≤ 32) (hS : K.nS ≤ 32) (hD : K.nD ≤ 32) (eF : K'.nF = K.nF) (eS : K'.nS = K.nS) (eD : K'.nD = K.nD) (gF gS gD kF kS kD : Nat) (S1 : Snap w gF gS gD K) (S2 : Snap w kF kS kD K') :
    Calls Tryz.prog 46 #[stVal K gF gS gD, stVal K' kF kS kD] w fun e w' => ∃ r, e = .returned (.bool r) ∧ (K' = K → r = true) ∧ Below w.heap.size w w' := by
  unfold stVal
  have s2f := S2.f
  have s2s := S2.s
  have s2d := S2.d
  rw [eF] at s2f ⊢
  rw [eS] at s2s ⊢
  rw [eD] at s2d ⊢
  have H1 : Hid (Snap w gF gS gD K) := S1
  have H2 : Hid (w.rowIs kF 71 (K.nF * 6) (fCell K') ∧ w.rowIs kS 82 (K.nS * 20) (sCell K') ∧ w.rowIs kD 87 (K.nD * 5) (dCell K')) := ⟨s2f, s2s, s2d⟩
  clear S1 S2 s2f s2s s2d eF eS eD
  go_enter Tryz.func46, Tryz.ntmps46
  go_wp2_with fail
  obtain ⟨W, eW⟩ : ∃ W, W = (w.alloc (.cells #[.slice (some ⟨gF, 0, none⟩) K.nF K.nF, .slice (some ⟨gS, 0, none⟩) K.nS K.nS, .slice (some ⟨gD, 0, none⟩) K.nD K.nD] 109)).alloc (.cells #[.slice (some ⟨kF, 0, none⟩) K.nF K.nF, .slice (some ⟨kS, 0, none⟩) K.nS K.nS, .slice (some ⟨kD, 0, none⟩) K.nD K.nD] 109) := ⟨_, rfl⟩
  have y1 : W.cell? ⟨w.heap.size, 1, none⟩ = some (.slice (some ⟨gS, 0, none⟩) K.nS K.nS) := by rw [eW, World.cell?_alloc2_first]; rfl
  have y2 : W.cell? ⟨w.heap.size, 2, none⟩ = some (.slice (some ⟨gD, 0, none⟩) K.nD K.nD) := by rw [eW, World.cell?_alloc2_first]; rfl
  have z1 : W.cell? ⟨w.heap.size + 1, 1, none⟩ = some (.slice (some ⟨kS, 0, none⟩) K.nS K.nS) := by rw [eW, World.cell?_alloc2_new]; rfl
  have z2 : W.cell? ⟨w.heap.size + 1, 2, none⟩ = some (.slice (some ⟨kD, 0, none⟩) K.nD K.nD) := by rw [eW, World.cell?_alloc2_new]; rfl
  have HW : Hid (Below w.heap.size w W ∧ W.heap.size = w.heap.size + 2) := by
    rw [eW]; exact ⟨((Below.refl _ _).alloc (Nat.le_refl _) _).alloc (by simp) _, by simp⟩
  rw [← eW]
  clear eW
  have Y1 : Hid (W.cell? ⟨w.heap.size, 1, none⟩ = some (.slice (some ⟨gS, 0, none⟩) K.nS K.nS)) := y1
  have Y2 : Hid (W.cell? ⟨w.heap.size, 2, none⟩ = some (.slice (some ⟨gD, 0, none⟩) K.nD K.nD)) := y2
  have Z1 : Hid (W.cell? ⟨w.heap.size + 1, 1, none⟩ = some (.slice (some ⟨kS, 0, none⟩) K.nS K.nS)) := z1
  have Z2 : Hid (W.cell? ⟨w.heap.size + 1, 2, none⟩ = some (.slice (some ⟨kD, 0, none⟩) K.nD K.nD)) := z2
  clear y1 y2 z1 z2
  refine (sameFrames_any W K.nF gF kF hF (fCell K) (fCell K') (H1.out.f.of_block (HW.out.1.block _ (row_lt H1.out.f))) (H2.out.1.of_block (HW.out.1.block _ (row_lt H2.out.1))) (fun k _ => cmpF K K' k)).mono ?_
  rintro e w1 ⟨r1, rfl, q1, b1⟩
  have Q1 : Hid (K' = K → r1 = true) := fun h => q1 (fun j _ => by rw [h])
  have HB1 : Hid (Below w.heap.size w w1 ∧ w.heap.size + 2 ≤ w1.heap.size) := ⟨below_then HW.out.1 b1 (by have := HW.out.2; omega), by have := HW.out.2; have := b1.size; omega⟩
  have y1 := below_cell b1 (by have := HW.out.2; omega) Y1.out
  have z1 := below_cell b1 (by have := HW.out.2; omega) Z1.out
  have Y3 : Hid (w1.cell? ⟨w.heap.size, 2, none⟩ = some (.slice (some ⟨gD, 0, none⟩) K.nD K.nD)) := below_cell b1 (by have := HW.out.2; omega) Y2.out
  have Z3 : Hid (w1.cell? ⟨w.heap.size + 1, 2, none⟩ = some (.slice (some ⟨kD, 0, none⟩) K.nD K.nD)) := below_cell b1 (by have := HW.out.2; omega) Z2.out
  clear q1 b1
  go_wp2_with fail
  refine (sameSlots_any w1 K.nS gS kS hS (sCell K) (sCell K') (H1.out.s.of_block (HB1.out.1.block _ (row_lt H1.out.s))) (H2.out.2.1.of_block (HB1.out.1.block _ (row_lt H2.out.2.1))) (fun k _ => cmpS K K' k)).mono ?_
  rintro e w2 ⟨r2, rfl, q2, b2⟩
  have Q2 : Hid (K' = K → r2 = true) := fun h => q2 (fun j _ => by rw [h])
  have HB2 : Hid (Below w.heap.size w w2) := below_then HB1.out.1 b2 (by have := HB1.out.2; omega)
  have y2 := below_cell b2 (by have := HB1.out.2; omega) Y3.out
  have z2 := below_cell b2 (by have := HB1.out.2; omega) Z3.out
  clear q2 b2
  go_wp2_with fail
  refine (sameDucts_any w2 K.nD gD kD hD (dCell K) (dCell K') (H1.out.d.of_block (HB2.out.block _ (row_lt H1.out.d))) (H2.out.2.2.of_block (HB2.out.block _ (row_lt H2.out.2.2))) (fun k _ => cmpD K K' k)).mono ?_
  rintro e w3 ⟨r3, rfl, q3, b3⟩
  have Q3 : Hid (K' = K → r3 = true) := fun h => q3 (fun j _ => by rw [h])
  have HB3 : Hid (Below w.heap.size w w3) := below_then HB2.out b3 HB2.out.size
  clear q3 b3
  cases r1 <;> cases r2 <;> cases r3
  all_goals go_wp2
  all_goals go_ret
  all_goals first | exact ⟨true, rfl, fun _ => rfl, HB3.out⟩ | exact ⟨false, rfl, fun h => Q1.out h, HB3.out⟩ | exact ⟨false, rfl, fun h => Q2.out h, HB3.out⟩ | exact ⟨false, rfl, fun h => Q3.out h, HB3.out⟩
end Go.Proofs.YtcgabodkegcpgaaGreatDoor
namespace Go.Proofs.YtcgabodkegcpgaaGreatDoor
open Go.RowKit
set_option linter.unusedVariables false
attribute [local go_sem ↓] Go.wp_at_zero Go.wp_at_succ

def stN (K : Ker) (c : Nat) : Nat := if c = 0 then K.nF else if c = 1 then K.nS else K.nD
def stZ (c : Nat) : Nat := if c = 0 then 6 else if c = 1 then 20 else 5
def stX (K : Ker) (c : Nat) : Nat → Value := if c = 0 then fCell K else if c = 1 then sCell K else dCell K
/-- Three lists, of whatever capacities, tell the kernel's cells. -/
def Tell (w : World) (K : Ker) (bo : Nat → Option Addr) (g : Nat → Nat) : Prop :=
  ∀ c, c < 3 → 0 < stN K c → bo c = some ⟨g c, 0, none⟩ ∧ g c < w.heap.size ∧ ∀ k, k < stN K c → w.rangeAt (g c) (k * stZ c) (cut (stX K c) (k * stZ c) (stZ c))
def tellVal (K : Ker) (bo : Nat → Option Addr) (cb : Nat → Nat) : Value := .agg #[.slice (bo 0) K.nF (cb 0), .slice (bo 1) K.nS (cb 1), .slice (bo 2) K.nD (cb 2)]
theorem Tell.same {w w' : World} {K : Ker} {bo : Nat → Option Addr} {g : Nat → Nat} (T : Tell w K bo g) (hz : w.heap.size ≤ w'.heap.size) (h : ∀ c, c < 3 → 0 < stN K c → w'.heap[g c]? = w.heap[g c]?) : Tell w' K bo g := fun c hc hn => by
  obtain ⟨a, b, d⟩ := T c hc hn
  exact ⟨a, by omega, fun k hk j v hv => (World.cell?_of_block (w := w) (a := ⟨g c, k * stZ c + j, none⟩) (h c hc hn)).trans (d k hk j v hv)⟩
theorem Tell.below {w w' : World} {K : Ker} {bo : Nat → Option Addr} {g : Nat → Nat} (T : Tell w K bo g) (b : Below w.heap.size w w') : Tell w' K bo g :=
  T.same b.size fun c hc hn => b.block _ (T c hc hn).2.1

theorem sameState_told (w : World) (K : Ker) (hF : K.nF ≤ 32) (hS : K.nS ≤ 32) (hD : K.nD ≤ 32) (gF gS gD : Nat) (S1 : Snap w gF gS gD K) (bo : Nat → Option Addr) (g cb : Nat → Nat) (T : Tell w K bo g) :
    Calls Tryz.prog 46 #[stVal K gF gS gD, tellVal K bo cb] w fun e w' => e = .returned (.bool true) ∧ Below w.heap.size w w' := by
  unfold stVal tellVal
  have H1 : Hid (Snap w gF gS gD K) := S1
  have H2 : Hid (Tell w K bo g) := T
  clear S1 T
  generalize eb0 : bo 0 = b0
  generalize eb1 : bo 1 = b1'
  generalize eb2 : bo 2 = b2'
  generalize ec0 : cb 0 = c0
  generalize ec1 : cb 1 = c1
  generalize ec2 : cb 2 = c2
  have EB : Hid (bo 0 = b0 ∧ bo 1 = b1' ∧ bo 2 = b2') := ⟨eb0, eb1, eb2⟩
  clear eb0 eb1 eb2 ec0 ec1 ec2
  go_enter Tryz.func46, Tryz.ntmps46
  go_wp2_with fail
  obtain ⟨W, eW⟩ : ∃ W, W = (w.alloc (.cells #[.slice (some ⟨gF, 0, none⟩) K.nF K.nF, .slice (some ⟨gS, 0, none⟩) K.nS K.nS, .slice (some ⟨gD, 0, none⟩) K.nD K.nD] 109)).alloc (.cells #[.slice b0 K.nF c0, .slice b1' K.nS c1, .slice b2' K.nD c2] 109) := ⟨_, rfl⟩
  have y1 : W.cell? ⟨w.heap.size, 1, none⟩ = some (.slice (some ⟨gS, 0, none⟩) K.nS K.nS) := by rw [eW, World.cell?_alloc2_first]; rfl
  have y2 : W.cell? ⟨w.heap.size, 2, none⟩ = some (.slice (some ⟨gD, 0, none⟩) K.nD K.nD) := by rw [eW, World.cell?_alloc2_first]; rfl
  have z1 : W.cell? ⟨w.heap.size + 1, 1, none⟩ = some (.slice b1' K.nS c1) := by rw [eW, World.cell?_alloc2_new]; rfl
  have z2 : W.cell? ⟨w.heap.size + 1, 2, none⟩ = some (.slice b2' K.nD c2) := by rw [eW, World.cell?_alloc2_new]; rfl
  have HW : Hid (Below w.heap.size w W ∧ W.heap.size = w.heap.size + 2) := by
    rw [eW]; exact ⟨((Below.refl _ _).alloc (Nat.le_refl _) _).alloc (by simp) _, by simp⟩
  rw [← eW]
  clear eW
  have Y1 : Hid (W.cell? ⟨w.heap.size, 1, none⟩ = some (.slice (some ⟨gS, 0, none⟩) K.nS K.nS)) := y1
  have Y2 : Hid (W.cell? ⟨w.heap.size, 2, none⟩ = some (.slice (some ⟨gD, 0, none⟩) K.nD K.nD)) := y2
  have Z1 : Hid (W.cell? ⟨w.heap.size + 1, 1, none⟩ = some (.slice b1' K.nS c1)) := z1
  have Z2 : Hid (W.cell? ⟨w.heap.size + 1, 2, none⟩ = some (.slice b2' K.nD c2)) := z2
  clear y1 y2 z1 z2
  refine (sameFrames_gen W K.nF gF (g 0) hF (fCell K) (fCell K) (H1.out.f.of_block (HW.out.1.block _ (row_lt H1.out.f))) b0 c0 (fun h => by rw [← EB.out.1]; exact (H2.out 0 (by omega) h).1) (fun h => ((H2.out.same HW.out.1.size fun c hc hn => HW.out.1.block _ (H2.out c hc hn).2.1) 0 (by omega) h).2) (fun k _ => cmpF K K k)).mono ?_
  rintro e w1 ⟨r1, rfl, q1, b1⟩
  obtain rfl : r1 = true := q1 (fun j _ => rfl)
  have HB1 : Hid (Below w.heap.size w w1 ∧ w.heap.size + 2 ≤ w1.heap.size) := ⟨below_then HW.out.1 b1 (by have := HW.out.2; omega), by have := HW.out.2; have := b1.size; omega⟩
  have y1 := below_cell b1 (by have := HW.out.2; omega) Y1.out
  have z1 := below_cell b1 (by have := HW.out.2; omega) Z1.out
  have Y3 : Hid (w1.cell? ⟨w.heap.size, 2, none⟩ = some (.slice (some ⟨gD, 0, none⟩) K.nD K.nD)) := below_cell b1 (by have := HW.out.2; omega) Y2.out
  have Z3 : Hid (w1.cell? ⟨w.heap.size + 1, 2, none⟩ = some (.slice b2' K.nD c2)) := below_cell b1 (by have := HW.out.2; omega) Z2.out
  clear q1 b1
  go_wp2_with fail
  refine (sameSlots_gen w1 K.nS gS (g 1) hS (sCell K) (sCell K) (H1.out.s.of_block (HB1.out.1.block _ (row_lt H1.out.s))) b1' c1 (fun h => by rw [← EB.out.2.1]; exact (H2.out 1 (by omega) h).1) (fun h => ((H2.out.same HB1.out.1.size fun c hc hn => HB1.out.1.block _ (H2.out c hc hn).2.1) 1 (by omega) h).2) (fun k _ => cmpS K K k)).mono ?_
  rintro e w2 ⟨r2, rfl, q2, b2⟩
  obtain rfl : r2 = true := q2 (fun j _ => rfl)
  have HB2 : Hid (Below w.heap.size w w2) := below_then HB1.out.1 b2 (by have := HB1.out.2; omega)
  have y2 := below_cell b2 (by have := HB1.out.2; omega) Y3.out
  have z2 := below_cell b2 (by have := HB1.out.2; omega) Z3.out
  clear q2 b2
  go_wp2_with fail
  refine (sameDucts_gen w2 K.nD gD (g 2) hD (dCell K) (dCell K) (H1.out.d.of_block (HB2.out.block _ (row_lt H1.out.d))) b2' c2 (fun h => by rw [← EB.out.2.2]; exact (H2.out 2 (by omega) h).1) (fun h => ((H2.out.same HB2.out.size fun c hc hn => HB2.out.block _ (H2.out c hc hn).2.1) 2 (by omega) h).2) (fun k _ => cmpD K K k)).mono ?_
  rintro e w3 ⟨r3, rfl, q3, b3⟩
  obtain rfl : r3 = true := q3 (fun j _ => rfl)
  have HB3 : Hid (Below w.heap.size w w3) := below_then HB2.out b3 HB2.out.size
  clear q3 b3
  go_wp2
  go_ret
  exact ⟨rfl, HB3.out⟩
end Go.Proofs.YtcgabodkegcpgaaGreatDoor
namespace Go.Proofs.YtcgabodkegcpgaaGreatDoor
open Go.RowKit
set_option linter.unusedVariables false
set_option linter.unusedSimpArgs false

def stTy (c : Nat) : TypeId := if c = 0 then 71 else if c = 1 then 82 else 87
def stSl (c : Nat) : TypeId := if c = 0 then 66 else if c = 1 then 72 else 83
def stL : LTy := ⟨109, 3, stTy, stZ⟩
theorem info_sized {P : Program} {t : TypeId} {n b : Nat} (h : (P.info? t).map (fun i => (i.zero.map (·.cells.size), i.size, i.bytes)) = some (some n, n, b)) : ∃ i z, P.info? t = some i ∧ i.zero = some z ∧ i.size = n ∧ i.bytes = b ∧ z.cells.size = n := by
  cases hq : P.info? t with
  | none => rw [hq] at h; cases h
  | some i =>
    rw [hq] at h
    simp only [Option.map_some, Option.some.injEq, Prod.mk.injEq] at h
    cases hz : i.zero with
    | none => rw [hz] at h; exact absurd h.1 (by simp)
    | some z => rw [hz] at h; exact ⟨i, z, rfl, hz, h.2.1, h.2.2, by simpa using h.1⟩
theorem stInfo (c : Nat) (hc : c < 3) : ∃ i z b, Tryz.prog.underlying (stSl c) = some (.slice (stTy c)) ∧ Tryz.prog.info? (stTy c) = some i ∧ i.zero = some z ∧ i.size = stZ c ∧ i.bytes = b ∧ z.cells.size = stZ c ∧ b ≤ 1000 := by
  obtain rfl | rfl | rfl : c = 0 ∨ c = 1 ∨ c = 2 := by omega
  · obtain ⟨i, z, h1, h2, h3, h4, h5⟩ := info_sized (P := Tryz.prog) (t := 71) (n := 6) (b := 48) (by kernel_rfl)
    exact ⟨i, z, 48, Tryz.underlying66, h1, h2, h3, h4, h5, by omega⟩
  · obtain ⟨i, z, h1, h2, h3, h4, h5⟩ := info_sized (P := Tryz.prog) (t := 82) (n := 20) (b := 160) (by kernel_rfl)
    exact ⟨i, z, 160, Tryz.underlying72, h1, h2, h3, h4, h5, by omega⟩
  · obtain ⟨i, z, h1, h2, h3, h4, h5⟩ := info_sized (P := Tryz.prog) (t := 87) (n := 5) (b := 40) (by kernel_rfl)
    exact ⟨i, z, 40, Tryz.underlying83, h1, h2, h3, h4, h5, by omega⟩
theorem stZ_pos (c : Nat) : 0 < stZ c := by unfold stZ; split; omega; split <;> omega
theorem stX_one (K : Ker) (c j : Nat) : (stX K c j).oneCell' = true := by
  unfold stX
  split
  · exact one_f K j
  · split
    · exact one_s K j
    · exact one_d K j

/-- The three lists hold so many elements; w is the world at the start: its next block is the answer's, the one behind it the struct. -/
structure Told (K : Ker) (w w' : World) (V : Nat → Value) (n : Nat → Nat) : Prop where
  lists : Lists stL w' (w.heap.size + 1) (w.heap.size + 2) V n (fun c => rng (stX K c) (n c * stZ c))
  bel : Below w.heap.size w w'
  size : w.heap.size + 2 ≤ w'.heap.size
  res : w'.rowIs w.heap.size 109 3 (fun _ => .slice none 0 0)
section
variable {K : Ker} {w w' w1 : World} {V : Nat → Value} {n : Nat → Nat}
theorem Told.step (T : Told K w w' V n) (b : Below w'.heap.size w' w1) : Told K w w1 V n :=
  ⟨T.lists.same (fun k hk _ => b.block k hk), below_then T.bel b T.bel.size, Nat.le_trans T.size b.size, T.res.of_block (b.block _ (by have := T.size; omega))⟩
theorem Told.start (K : Ker) (w : World) : Told K w ((w.alloc (.cells #[.slice none 0 0, .slice none 0 0, .slice none 0 0] 109)).alloc (.cells #[.slice none 0 0, .slice none 0 0, .slice none 0 0] 109)) (fun _ => .slice none 0 0) (fun _ => 0) := by
  refine ⟨⟨?_, fun c hc => ?_, fun _ _ _ _ _ => Or.inl rfl, fun _ _ => by simp [Value.ownBlock]⟩, ((Below.refl _ _).alloc (Nat.le_refl _) _).alloc (by simp) _, by simp, ?_⟩
  · have h := rowIs_new2 w (.cells #[.slice none 0 0, .slice none 0 0, .slice none 0 0] 109) #[.slice none 0 0, .slice none 0 0, .slice none 0 0] 109
    refine h.congr fun j hj => ?_
    have hj' : j < 3 := hj
    obtain rfl | rfl | rfl : j = 0 ∨ j = 1 ∨ j = 2 := by omega
    all_goals rfl
  · rw [Nat.zero_mul]; exact World.ownsRow_nil _ _ _ _
  · have h := (rowIs_new w #[.slice none 0 0, .slice none 0 0, .slice none 0 0] 109).alloc (.cells #[.slice none 0 0, .slice none 0 0, .slice none 0 0] 109)
    refine h.congr fun j hj => ?_
    have hj' : j < 3 := hj
    obtain rfl | rfl | rfl : j = 0 ∨ j = 1 ∨ j = 2 := by omega
    all_goals rfl
theorem Told.cell (T : Told K w w' V n) {c : Nat} (hc : c < 3) : w'.cell? ⟨w.heap.size + 1, c, none⟩ = some (V c) := T.lists.cell hc
theorem Told.frozen (T : Told K w w' V n) (c : Nat) : w'.frozen? ⟨w.heap.size + 1, c, none⟩ = false := T.lists.str.frozen c
theorem Told.ncong (T : Told K w w' V n) {m : Nat → Nat} (h : ∀ c, c < 3 → m c = n c) : Told K w w' V m := by
  refine ⟨⟨T.lists.str, fun c hc => ?_, T.lists.apart, T.lists.far⟩, T.bel, T.size, T.res⟩
  rw [h c hc]; exact T.lists.own c hc
/-- An element is put behind a list; then its place in the struct is written. -/
theorem told_app (T : Told K w w' V n) (b1 : Below w'.heap.size w' w1) {c : Nat} (hc : c < 3) (hn : n c ≤ 32) (ad : Addr) (cp : Nat) (news : List Value) (hnew : news = cut (stX K c) (n c * stZ c) (stZ c)) (hcell : ∀ j u, news[j]? = some u → w1.cell? (ad.add j) = some u)
    {ops : Array Oper} {rest : List Oper} {o : Oper} {a : Go.Act} {Q : Exit → Go.Act → World → Prop} (hgd : o.guard = none) (s x : Operand)
    (ho : o.op = .call { callee := .builtin .append, args := #[s, x], argTypes := #[stSl c, stSl c] }) (hs : a.eval s = V c) (hx : a.eval x = .slice (some ad) 1 cp)
    (hk : ∀ g cap w2, Told K w (w2.setCell ⟨w.heap.size + 1, c, none⟩ (.slice (some ⟨g, 0, none⟩) (n c + 1) cap)) (up V c (.slice (some ⟨g, 0, none⟩) (n c + 1) cap)) (up n c (n c + 1)) → w2.cell? ⟨w.heap.size + 1, c, none⟩ = some (V c) → w2.frozen? ⟨w.heap.size + 1, c, none⟩ = false → wpList Tryz.prog ops Q rest (a.put o.dst (.slice (some ⟨g, 0, none⟩) (n c + 1) cap)) w2) :
    wpList Tryz.prog ops Q (o :: rest) a w1 := by
  obtain ⟨i, z, by_, u1, u2, u3, u4, u5, u6, u7⟩ := stInfo c hc
  have T1 := T.step b1
  have hl : news.length = stZ c := by rw [hnew, cut_len]
  refine lists_app T1.lists (c := c) hc (stSl c) u1 u2 u3 u4 u5 u6 (stZ_pos c) ad cp news hl hcell (fun u hu => ?_) (by simp [maxLen]; omega) (Nat.le_trans (Nat.mul_le_mul (show n c + 1 ≤ 33 by omega) u7) (by omega)) T1.size hgd s x ho hs hx ?_
  · rw [hnew] at hu
    unfold cut at hu
    rw [List.mem_map] at hu
    obtain ⟨j, _, rfl⟩ := hu
    exact stX_one K c _
  · intro g cap w2 G
    refine hk g cap w2 ⟨?_, ?_, ?_, ?_⟩ (G.row.cell hc) (G.row.frozen c)
    · refine ⟨G.lists.str, fun d hd => ?_, G.lists.apart, G.lists.far⟩
      have := G.lists.own d hd
      by_cases e : d = c
      · subst e
        simp only [up_same] at this ⊢
        rw [show (n d + 1) * stZ d = n d * stZ d + stZ d by rw [Nat.add_mul, Nat.one_mul], rng_add]
        rw [hnew] at this
        exact this
      · simp only [up_other _ _ e] at this ⊢
        exact this
    · have g2 := G.grown
      refine ⟨g2.os.trans T1.bel.os, g2.tape.trans T1.bel.tape, g2.output.trans T1.bel.output, ?_, fun k hk => ?_⟩
      · rw [size_setCell]; have := T1.bel.size; have := g2.size; omega
      · rw [Below.heap_setCell w2 _ _ k (by show k ≠ w.heap.size + 1; omega), g2.block k (by have := T1.size; omega) (fun e => by have := ((T1.lists.own c hc).lt k e.symm).1; omega)]
        exact T1.bel.block k hk
    · rw [size_setCell]; have := T1.size; have := G.grown.size; omega
    · refine (T1.res.of_block (G.grown.block _ (by have := T1.size; omega) (fun e => ?_))).setOther (by show w.heap.size ≠ w.heap.size + 1; omega) _
      have := ((T1.lists.own c hc).lt _ e.symm).1; omega
/-- What the lists tell at the end. -/
theorem Told.tell (T : Told K w w' V (stN K)) : ∃ (bo : Nat → Option Addr) (g cb : Nat → Nat), (∀ c, c < 3 → V c = .slice (bo c) (stN K c) (cb c)) ∧ Tell w' K bo g ∧ ∀ c, c < 3 → 0 < stN K c → w.heap.size + 2 ≤ g c := by
  have H : ∀ c, ∃ t : Option Addr × Nat × Nat, c < 3 → V c = .slice t.1 (stN K c) t.2.2 ∧ (0 < stN K c → t.1 = some ⟨t.2.1, 0, none⟩ ∧ w.heap.size + 2 ≤ t.2.1) := fun c => by
    by_cases hc : c < 3
    · have oq := T.lists.own c hc
      by_cases hd : 0 < stN K c
      · obtain ⟨b, cp, e, hb, hl⟩ := oq.form hd
        exact ⟨(some ⟨b, 0, none⟩, b, cp), fun _ => ⟨e, fun _ => ⟨rfl, hb⟩⟩⟩
      · have h0 : stN K c = 0 := by omega
        rcases oq.2 with ⟨e, e0⟩ | ⟨b, cp, cur, e, _⟩
        · exact ⟨(none, 0, 0), fun _ => ⟨by rw [e, h0], fun h => by omega⟩⟩
        · exact ⟨(some ⟨b, 0, none⟩, 0, cp), fun _ => ⟨e, fun h => by omega⟩⟩
    · exact ⟨(none, 0, 0), fun h => absurd h hc⟩
  obtain ⟨t, ht⟩ := Classical.axiomOfChoice H
  refine ⟨fun c => (t c).1, fun c => (t c).2.1, fun c => (t c).2.2, fun c hc => (ht c hc).1, fun c hc hn => ?_, fun c hc hn => ((ht c hc).2 hn).2⟩
  obtain ⟨e, f⟩ := ht c hc
  have oq := T.lists.own c hc
  rw [e, (f hn).1] at oq
  refine ⟨(f hn).1, (oq.lt _ rfl).2, fun k hk j v hv => ?_⟩
  have hj : j < stZ c := by have := (List.getElem?_eq_some_iff.1 hv).1; rwa [cut_len] at this
  have hlt : k * stZ c + j < stN K c * stZ c := by
    have := Nat.mul_le_mul_right (stZ c) (show k + 1 ≤ stN K c by omega)
    rw [Nat.add_mul, Nat.one_mul] at this
    omega
  rw [oq.cellAt (k * stZ c + j) (by exact hlt), rng_get _ _ _ hlt]
  unfold cut at hv
  rw [List.getElem?_map, List.getElem?_range hj] at hv
  exact hv
end
end Go.Proofs.YtcgabodkegcpgaaGreatDoor
