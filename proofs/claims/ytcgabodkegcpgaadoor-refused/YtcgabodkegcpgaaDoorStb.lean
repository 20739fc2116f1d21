/- What the kernel's State answers: new lists that hold the kernel's cells; nothing that was there turns. -/
import Derived.Test.YtcgabodkegcpgaaDoorSta
namespace Go.Proofs.YtcgabodkegcpgaaDoor
open Go.RowKit
set_option linter.unusedVariables false
attribute [local go_sem ↓] Go.wp_at_zero Go.wp_at_succ

/-- Three lists that hold the kernel's cells. -/
structure Snap (w : World) (gF gS gD : Nat) (K : Ker) : Prop where
  f : w.rowIs gF 75 (K.nF * 6) (fCell K)
  s : w.rowIs gS 55 (K.nS * 20) (sCell K)
  d : w.rowIs gD 84 (K.nD * 5) (dCell K)
theorem Snap.same {w w' : World} {gF gS gD : Nat} {K : Ker} (S : Snap w gF gS gD K) (h : ∀ k, k = gF ∨ k = gS ∨ k = gD → w'.heap[k]? = w.heap[k]?) : Snap w' gF gS gD K :=
  ⟨S.f.of_block (h _ (by simp)), S.s.of_block (h _ (by simp)), S.d.of_block (h _ (by simp))⟩
theorem one_f (K : Ker) (j : Nat) : (fCell K j).oneCell' = true := rfl
theorem one_d (K : Ker) (j : Nat) : (dCell K j).oneCell' = true := rfl
theorem one_s (K : Ker) (j : Nat) : (sCell K j).oneCell' = true := by unfold sCell; split <;> rfl

theorem res_block {w w1 w2 w3 : World} {C : Array Value} {t : TypeId} (b1 : Below (w.alloc (.cells C t)).drew.heap.size (w.alloc (.cells C t)).drew w1) (b2 : Below w1.heap.size w1 w2) (b3 : Below w2.heap.size w2 w3) :
    (∀ i, w3.cell? ⟨w.heap.size, i, none⟩ = C[i]?) ∧ (∀ i, w3.frozen? ⟨w.heap.size, i, none⟩ = false) := by
  have l0 : w.heap.size < (w.alloc (.cells C t)).drew.heap.size := by show w.heap.size < (w.alloc (.cells C t)).heap.size; simp
  have l1 := Nat.lt_of_lt_of_le l0 b1.size
  have l2 := Nat.lt_of_lt_of_le l1 b2.size
  have e : w3.heap[w.heap.size]? = (w.alloc (.cells C t)).heap[w.heap.size]? := (b3.block _ l2).trans ((b2.block _ l1).trans (b1.block _ l0))
  exact ⟨fun i => (World.cell?_of_block (w := w.alloc (.cells C t)) (a := ⟨w.heap.size, i, none⟩) e).trans (World.cell?_alloc_at _ _ _ _ rfl), fun i => (World.frozen?_of_block (w := w.alloc (.cells C t)) (a := ⟨w.heap.size, i, none⟩) e).trans (World.frozen?_alloc_at _ _ _ _ rfl)⟩

def stVal (K : Ker) (gF gS gD : Nat) : Value := .agg #[.slice (some ⟨gF, 0, none⟩) K.nF K.nF, .slice (some ⟨gS, 0, none⟩) K.nS K.nS, .slice (some ⟨gD, 0, none⟩) K.nD K.nD]

def stCells (K : Ker) (g : Nat) : List Value := [.slice (some ⟨g + 1, 0, none⟩) K.nF K.nF, .slice (some ⟨g + 1 + 1, 0, none⟩) K.nS K.nS, .slice (some ⟨g + 1 + 1 + 1, 0, none⟩) K.nD K.nD]
theorem res_there {w3 : World} {g : Nat} {K : Ker} {n : Nat} (yc : ∀ i, w3.cell? ⟨g, i, none⟩ = (#[Value.slice none 0 0, Value.slice none 0 0, Value.slice none 0 0] : Array Value)[i]?) (yf : ∀ i, w3.frozen? ⟨g, i, none⟩ = false) : w3.there g 0 (stCells K n).length := fun j hj => by
  have hj' : j < 3 := hj
  refine ⟨?_, ?_⟩
  · rw [yc]; match j, hj' with | 0, _ => rfl | 1, _ => rfl | 2, _ => rfl
  · exact yf _
theorem res_done {w w1 w2 w3 : World} {K : Ker} {C : Array Value} {t : TypeId} (b1 : Below (w.alloc (.cells C t)).drew.heap.size (w.alloc (.cells C t)).drew w1) (b2 : Below w1.heap.size w1 w2) (b3 : Below w2.heap.size w2 w3)
    (z1 : w1.heap.size = (w.alloc (.cells C t)).drew.heap.size + 1) (z2 : w2.heap.size = w1.heap.size + 1) (r1 : w1.rowIs (w.alloc (.cells C t)).drew.heap.size 75 (K.nF * 6) (fCell K)) (r2 : w2.rowIs w1.heap.size 55 (K.nS * 20) (sCell K)) (r3 : w3.rowIs w2.heap.size 84 (K.nD * 5) (dCell K)) :
    ∃ gF gS gD, Ending.returned (.agg (stCells K w.heap.size).toArray) = .returned (stVal K gF gS gD) ∧ Below w.heap.size w (w3.setCells w.heap.size 0 (stCells K w.heap.size)) ∧ Snap (w3.setCells w.heap.size 0 (stCells K w.heap.size)) gF gS gD K ∧ w.heap.size ≤ gF ∧ w.heap.size ≤ gS ∧ w.heap.size ≤ gD := by
  have l0 : (w.alloc (.cells C t)).drew.heap.size = w.heap.size + 1 := by show (w.alloc (.cells C t)).heap.size = _; simp
  rw [l0] at z1 r1
  rw [z1] at z2 r2
  rw [z2] at r3
  refine ⟨w.heap.size + 1, w.heap.size + 1 + 1, w.heap.size + 1 + 1 + 1, rfl, below_setCells (Nat.le_refl _) _ _ ?_, ?_, by omega, by omega, by omega⟩
  · have a0 : Below w.heap.size w (w.alloc (.cells C t)) := (Below.refl _ _).alloc (Nat.le_refl _) _
    refine ⟨?_, ?_, ?_, ?_, fun k hk => ?_⟩
    · rw [b3.os, b2.os, b1.os]; exact a0.os
    · rw [b3.tape, b2.tape, b1.tape]; exact a0.tape
    · rw [b3.output, b2.output, b1.output]; exact a0.output
    · have := b3.size; omega
    · exact (b3.block k (by omega)).trans ((b2.block k (by omega)).trans ((b1.block k (by omega)).trans (a0.block k hk)))
  · refine Snap.same (w := w3) ⟨(r1.of_block (b2.block _ (by omega))).of_block (b3.block _ (by omega)), r2.of_block (b3.block _ (by omega)), r3⟩ ?_
    rintro k (rfl | rfl | rfl) <;> exact heap_setCells (by omega) _ _ _

section
variable {bk bf bs bd : Nat} {K : Ker} {w : World}
set_option maxRecDepth 100000 in
set_option maxHeartbeats 2000000 in
theorem state_rep (R : Rep w bk bf bs bd K) :
    Calls Tryd.prog 13 #[.pointer (some ⟨bk, 0, none⟩)] w fun e w' => ∃ gF gS gD, e = .returned (stVal K gF gS gD) ∧ Below w.heap.size w w' ∧ Snap w' gF gS gD K ∧ w.heap.size ≤ gF ∧ w.heap.size ≤ gS ∧ w.heap.size ≤ gD := by
  have HR : Hid (Rep w bk bf bs bd K) := R
  have k0 := fun o => (HR.out.alloc o).k0
  have k1 := fun o => (HR.out.alloc o).k1
  have k2 := fun o => (HR.out.alloc o).k2
  have HF : Hid (K.nF ≤ 32 ∧ K.nS ≤ 6 ∧ K.nD ≤ 4) := ⟨R.hF, R.hS, R.hD⟩
  have ek : w.heap.size ≠ bk := World.new_ne w ⟨bk, 0, none⟩ R.k0
  have ek' : bk ≠ w.heap.size := Ne.symm ek
  clear R
  go_enter Tryd.func13, Tryd.ntmps13
  go_wp2_with fail
  go_region_held3 (fun w' => w'.cell? ⟨bk, 0, none⟩ = some (.slice (some ⟨bf, 0, none⟩) K.nF K.nF) ∧ w'.cell? ⟨bk, 1, none⟩ = some (.slice (some ⟨bs, 0, none⟩) K.nS K.nS) ∧ w'.cell? ⟨bk, 2, none⟩ = some (.slice (some ⟨bd, 0, none⟩) K.nD K.nD)) ((repeat' apply And.intro) <;> (first | assumption | (go_keep; done)))
    (first | (go_at_call 34; refine (copiedFrame_any bf K.nF HF.out.1 (fCell K) _ (HR.out.alloc _).drew.lf (fun j hj => (HR.out.alloc _).drew.cellF hj) (one_f K)).mono ?_; rintro e w1 ⟨rfl, b1, z1, r1⟩; have HR1 : Hid (Rep w1 bk bf bs bd K) := (HR.out.alloc _).drew.same b1.size (fun k h1 _ => b1.block k h1); have u0 := HR1.out.k0; have u1 := HR1.out.k1; have u2 := HR1.out.k2) | (go_at_call 35; refine (copiedSlot_any bs K.nS (by have := HF.out; omega) (sCell K) _ HR1.out.ls (fun j hj => HR1.out.cellS hj) (one_s K)).mono ?_; rintro e w2 ⟨rfl, b2, z2, r2⟩; have HR2 : Hid (Rep w2 bk bf bs bd K) := HR1.out.same b2.size (fun k h1 _ => b2.block k h1); have v0 := HR2.out.k0; have v1 := HR2.out.k1; have v2 := HR2.out.k2) | (go_at_call 36; refine (copiedDuct_any bd K.nD (by have := HF.out; omega) (dCell K) _ HR2.out.ld (fun j hj => HR2.out.cellD hj) (one_d K)).mono ?_; rintro e w3 ⟨rfl, b3, z3, r3⟩; have HR3 : Hid (Rep w3 bk bf bs bd K) := HR2.out.same b3.size (fun k h1 _ => b3.block k h1); have x0 := HR3.out.k0; have x1 := HR3.out.k1; have x2 := HR3.out.k2; have yc := (res_block b1 b2 b3).1; have yf := (res_block b1 b2 b3).2; have y0 : w3.cell? ⟨w.heap.size, 0, none⟩ = some (.slice none 0 0) := yc 0; have y1 : w3.cell? ⟨w.heap.size, 1, none⟩ = some (.slice none 0 0) := yc 1; have y2 : w3.cell? ⟨w.heap.size, 2, none⟩ = some (.slice none 0 0) := yc 2; have f0 := yf 0; have f1 := yf 1; have f2 := yf 2; have HT : Hid (w3.there w.heap.size 0 (stCells K w.heap.size).length) := res_there yc yf))
  rename_i Q1 K1 hK hH
  refine hK _ _ ?_
  subst Q1
  refine wp_ret ?_
  show bodyPost _ _ _ _ _ (w3.setCells w.heap.size 0 (stCells K w.heap.size))
  refine bodyPost_ret (v := .agg (stCells K w.heap.size).toArray) (results_cell_range Tryd.results13 _ (w3.setCells w.heap.size 0 (stCells K w.heap.size)) w.heap.size (stCells K w.heap.size) _ rfl (World.rangeAt_setCells_same w3 w.heap.size 0 _ HT.out) Tryd.underlying45 rfl (by kernel_rfl)) rfl ?_
  exact res_done b1 b2 b3 z1 z2 r1 r2 r3
end
end Go.Proofs.YtcgabodkegcpgaaDoor
