/- What the kernel's State does: three new lists that hold the kernel's cells. -/
import Derived.Test.YtcgabodkegcpgaaDoorNew2
import Derived.Deep.RegionHeld3
import Derived.Deep.DrawnRows
namespace Go.Proofs.YtcgabodkegcpgaaDoor
open Go.RowKit
set_option linter.unusedVariables false
attribute [local go_sem ↓] Go.wp_at_zero Go.wp_at_succ

theorem run_copy_m {P : Program} (w : World) (dT ty elem : TypeId) (b g n m : Nat) (cs : List Value) (hu : P.underlying dT = some (.slice elem)) (hs : (P.info? elem).map (·.size) = some m) (hn : cs.length = n * m)
    (hsrc : ∀ j v, cs[j]? = some v → w.cell? ((⟨g, 0, none⟩ : Addr).add j) = some v) (ht : w.there b 0 cs.length) (h1 : ∀ v ∈ cs, v.oneCell' = true) :
    (Builtin.copy_ #[dT, dT] ty #[.slice (some ⟨b, 0, none⟩) n n, .slice (some ⟨g, 0, none⟩) n n]).run P w = .ok (goInt n) (w.setCells b 0 cs) := by
  have hl := run_loadCells_list (P := P) w ⟨g, 0, none⟩ cs hsrc
  have hst := run_storeCells_cells (P := P) b 0 cs 0 w (fun j hj => by simpa using (ht j hj).1) (fun j hj => by simpa using (ht j hj).2) h1
  cases hq : P.info? elem with
  | none => simp [hq] at hs
  | some i =>
    have hi : i.size = m := by simpa [hq] using hs
    rw [hn] at hl
    simp only [Nat.add_zero] at hst
    simp [Builtin.copy_, run_underlying hu, Builtin.lenOf, Builtin.firstCells, sizeOf, typeInfo, hq, hi, hl, hst]
theorem wpList_copy_run {P : Program} {w w' : World} {ops : Array Oper} {rest : List Oper} {o : Oper} {a : Act} {Q : Exit → Act → World → Prop} (hg : o.guard = none) (s x : Operand) (t : TypeId)
    (hop : o.op = Op.call { callee := Callee.builtin Builtin.copy, args := #[s, x], argTypes := #[t, t] }) (v u v' : Value) (hs : a.eval s = v) (hx : a.eval x = u)
    (hrun : (Builtin.copy_ #[t, t] o.type #[v, u]).run P w = .ok v' w') (h : wpList P ops Q rest (a.put o.dst v') w') : wpList P ops Q (o :: rest) a w := by
  refine wpList_plain hg fun K hK' => ?_
  unfold Oper.wp
  simp [execOp, hop, resolve, invoke, builtin, hs, hx, hrun, Result.andThen]
  exact hK' _ _ h

/-- The kernel's cells, list by list. -/
def fCell (K : Ker) (j : Nat) : Value := .int .i64 (K.F (j / 6) (j % 6))
def sCell (K : Ker) (j : Nat) : Value := if 4 ≤ j % 20 ∧ j % 20 ≤ 18 ∧ (j % 20) % 2 = 0 then .bool (K.B (j / 20) (j % 20)) else .int .i64 (K.S (j / 20) (j % 20))
def dCell (K : Ker) (j : Nat) : Value := .int .i64 (K.D (j / 5) (j % 5))
section
variable {bk bf bs bd : Nat} {K : Ker} {w : World}
theorem Rep.cellF (R : Rep w bk bf bs bd K) {j : Nat} (hj : j < K.nF * 6) : w.cell? ⟨bf, j, none⟩ = some (fCell K j) := by
  have := R.f (j / 6) (j % 6) (by omega) (by omega)
  rw [show j / 6 * 6 + j % 6 = j by omega] at this
  exact this
theorem Rep.cellS (R : Rep w bk bf bs bd K) {j : Nat} (hj : j < K.nS * 20) : w.cell? ⟨bs, j, none⟩ = some (sCell K j) := by
  unfold sCell
  split
  · have := R.b (j / 20) (j % 20) (by omega) (by assumption)
    rw [show j / 20 * 20 + j % 20 = j by omega] at this
    exact this
  · have := R.s (j / 20) (j % 20) (by omega) (by omega) (by assumption)
    rw [show j / 20 * 20 + j % 20 = j by omega] at this
    exact this
theorem Rep.cellD (R : Rep w bk bf bs bd K) {j : Nat} (hj : j < K.nD * 5) : w.cell? ⟨bd, j, none⟩ = some (dCell K j) := by
  have := R.d (j / 5) (j % 5) (by omega) (by omega)
  rw [show j / 5 * 5 + j % 5 = j by omega] at this
  exact this
end

set_option maxRecDepth 100000 in
set_option maxHeartbeats 1000000 in
theorem copiedFrame_any (g n : Nat) (hn : n ≤ 32) (f : Nat → Value) (w : World) (hg : g < w.heap.size) (hc : ∀ j, j < n * 6 → w.cell? ⟨g, j, none⟩ = some (f j)) (h1 : ∀ j, (f j).oneCell' = true) :
    Calls Tryd.prog 34 #[.slice (some ⟨g, 0, none⟩) n n] w fun e w' => e = .returned (.slice (some ⟨w.heap.size, 0, none⟩) n n) ∧ Below w.heap.size w w' ∧ w'.heap.size = w.heap.size + 1 ∧ w'.rowIs w.heap.size 75 (n * 6) f := by
  obtain ⟨C, hC, hmk⟩ := makeFrame n hn w
  have hrow := rowIs_new w C 75
  rw [hC] at hrow
  have hcp : ∀ ty, (Builtin.copy_ #[41, 41] ty #[.slice (some ⟨w.heap.size, 0, none⟩) n n, .slice (some ⟨g, 0, none⟩) n n]).run Tryd.prog (w.alloc (.cells C 75)) = .ok (goInt n) ((w.alloc (.cells C 75)).setCells w.heap.size 0 ((List.range (n * 6)).map f)) :=
    fun ty => run_copy_m _ _ _ 75 _ _ n 6 _ Tryd.underlying41 (by kernel_rfl) (by simp) (fun j v hv => by
      have hj : j < n * 6 := by have := (List.getElem?_eq_some_iff.1 hv).1; simpa using this
      rw [Addr.add_mid, Nat.zero_add, World.cell?_of_block (w := w) (a := ⟨g, j, none⟩) (Below.heap_alloc _ _ _ hg), hc j hj, ← hv, List.getElem?_map, List.getElem?_range hj]; rfl) (by simpa using rowIs_there hrow (by omega)) (fun v hv => by simp at hv; obtain ⟨j, _, rfl⟩ := hv; exact h1 j)
  have Hcp : Hid (∀ ty, _) := hcp
  have Hrow : Hid _ := hrow
  clear hcp hC hrow hc h1
  go_enter Tryd.func34, Tryd.ntmps34
  go_wp2_with (refine wpList_copy_run rfl _ _ 41 rfl (.slice (some ⟨w.heap.size, 0, none⟩) n n) (.slice (some ⟨g, 0, none⟩) n n) (goInt n) rfl rfl (Hcp.out _) ?_)
  go_ret
  refine ⟨rfl, below_setCells (Nat.le_refl _) _ _ ((Below.refl _ _).alloc (Nat.le_refl _) _), by rw [size_setCells]; simp, (rowIs_setCells _ 0 Hrow.out).congr fun j hj => ?_⟩
  rw [if_pos (by simp; exact hj), Nat.sub_zero, List.getD_eq_getElem?_getD, List.getElem?_map, List.getElem?_range hj]
  rfl

set_option maxRecDepth 100000 in
set_option maxHeartbeats 1000000 in
theorem copiedSlot_any (g n : Nat) (hn : n ≤ 32) (f : Nat → Value) (w : World) (hg : g < w.heap.size) (hc : ∀ j, j < n * 20 → w.cell? ⟨g, j, none⟩ = some (f j)) (h1 : ∀ j, (f j).oneCell' = true) :
    Calls Tryd.prog 35 #[.slice (some ⟨g, 0, none⟩) n n] w fun e w' => e = .returned (.slice (some ⟨w.heap.size, 0, none⟩) n n) ∧ Below w.heap.size w w' ∧ w'.heap.size = w.heap.size + 1 ∧ w'.rowIs w.heap.size 55 (n * 20) f := by
  obtain ⟨C, hC, hmk⟩ := makeSlot n hn w
  have hrow := rowIs_new w C 55
  rw [hC] at hrow
  have hcp : ∀ ty, (Builtin.copy_ #[42, 42] ty #[.slice (some ⟨w.heap.size, 0, none⟩) n n, .slice (some ⟨g, 0, none⟩) n n]).run Tryd.prog (w.alloc (.cells C 55)) = .ok (goInt n) ((w.alloc (.cells C 55)).setCells w.heap.size 0 ((List.range (n * 20)).map f)) :=
    fun ty => run_copy_m _ _ _ 55 _ _ n 20 _ Tryd.underlying42 (by kernel_rfl) (by simp) (fun j v hv => by
      have hj : j < n * 20 := by have := (List.getElem?_eq_some_iff.1 hv).1; simpa using this
      rw [Addr.add_mid, Nat.zero_add, World.cell?_of_block (w := w) (a := ⟨g, j, none⟩) (Below.heap_alloc _ _ _ hg), hc j hj, ← hv, List.getElem?_map, List.getElem?_range hj]; rfl) (by simpa using rowIs_there hrow (by omega)) (fun v hv => by simp at hv; obtain ⟨j, _, rfl⟩ := hv; exact h1 j)
  have Hcp : Hid (∀ ty, _) := hcp
  have Hrow : Hid _ := hrow
  clear hcp hC hrow hc h1
  go_enter Tryd.func35, Tryd.ntmps35
  go_wp2_with (refine wpList_copy_run rfl _ _ 42 rfl (.slice (some ⟨w.heap.size, 0, none⟩) n n) (.slice (some ⟨g, 0, none⟩) n n) (goInt n) rfl rfl (Hcp.out _) ?_)
  go_ret
  refine ⟨rfl, below_setCells (Nat.le_refl _) _ _ ((Below.refl _ _).alloc (Nat.le_refl _) _), by rw [size_setCells]; simp, (rowIs_setCells _ 0 Hrow.out).congr fun j hj => ?_⟩
  rw [if_pos (by simp; exact hj), Nat.sub_zero, List.getD_eq_getElem?_getD, List.getElem?_map, List.getElem?_range hj]
  rfl

set_option maxRecDepth 100000 in
set_option maxHeartbeats 1000000 in
theorem copiedDuct_any (g n : Nat) (hn : n ≤ 32) (f : Nat → Value) (w : World) (hg : g < w.heap.size) (hc : ∀ j, j < n * 5 → w.cell? ⟨g, j, none⟩ = some (f j)) (h1 : ∀ j, (f j).oneCell' = true) :
    Calls Tryd.prog 36 #[.slice (some ⟨g, 0, none⟩) n n] w fun e w' => e = .returned (.slice (some ⟨w.heap.size, 0, none⟩) n n) ∧ Below w.heap.size w w' ∧ w'.heap.size = w.heap.size + 1 ∧ w'.rowIs w.heap.size 84 (n * 5) f := by
  obtain ⟨C, hC, hmk⟩ := makeDuct n hn w
  have hrow := rowIs_new w C 84
  rw [hC] at hrow
  have hcp : ∀ ty, (Builtin.copy_ #[43, 43] ty #[.slice (some ⟨w.heap.size, 0, none⟩) n n, .slice (some ⟨g, 0, none⟩) n n]).run Tryd.prog (w.alloc (.cells C 84)) = .ok (goInt n) ((w.alloc (.cells C 84)).setCells w.heap.size 0 ((List.range (n * 5)).map f)) :=
    fun ty => run_copy_m _ _ _ 84 _ _ n 5 _ Tryd.underlying43 (by kernel_rfl) (by simp) (fun j v hv => by
      have hj : j < n * 5 := by have := (List.getElem?_eq_some_iff.1 hv).1; simpa using this
      rw [Addr.add_mid, Nat.zero_add, World.cell?_of_block (w := w) (a := ⟨g, j, none⟩) (Below.heap_alloc _ _ _ hg), hc j hj, ← hv, List.getElem?_map, List.getElem?_range hj]; rfl) (by simpa using rowIs_there hrow (by omega)) (fun v hv => by simp at hv; obtain ⟨j, _, rfl⟩ := hv; exact h1 j)
  have Hcp : Hid (∀ ty, _) := hcp
  have Hrow : Hid _ := hrow
  clear hcp hC hrow hc h1
  go_enter Tryd.func36, Tryd.ntmps36
  go_wp2_with (refine wpList_copy_run rfl _ _ 43 rfl (.slice (some ⟨w.heap.size, 0, none⟩) n n) (.slice (some ⟨g, 0, none⟩) n n) (goInt n) rfl rfl (Hcp.out _) ?_)
  go_ret
  refine ⟨rfl, below_setCells (Nat.le_refl _) _ _ ((Below.refl _ _).alloc (Nat.le_refl _) _), by rw [size_setCells]; simp, (rowIs_setCells _ 0 Hrow.out).congr fun j hj => ?_⟩
  rw [if_pos (by simp; exact hj), Nat.sub_zero, List.getD_eq_getElem?_getD, List.getElem?_map, List.getElem?_range hj]
  rfl
end Go.Proofs.YtcgabodkegcpgaaDoor
