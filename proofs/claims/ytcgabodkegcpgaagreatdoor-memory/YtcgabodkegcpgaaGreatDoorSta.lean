/- What the kernel's State does: three new lists that hold the kernel's cells. -/
import Derived.Test.YtcgabodkegcpgaaGreatDoorNew1
import Derived.Deep.RegionHeld3
import Derived.Deep.DrawnRows
namespace Go.Proofs.YtcgabodkegcpgaaGreatDoor
open Go.RowKit
set_option linter.unusedVariables false
attribute [local go_sem ↓] Go.wp_at_zero Go.wp_at_succ

theorem run_copy_m {P : Program} (w : World) (dT ty elem : TypeId) (b g n m : Nat) (cs : List Value) (hu : P.underlying dT = some (.slice elem)) (hs : (P.info? elem).map (·.size) = some m) (hn : cs.length = n * m)
    (hsrc : ∀ j v, cs[j]? = some v → w.cell? ((⟨g, 0, none⟩ : Addr).add j) = some v) (ht : w.there b 0 cs.length) (h1 : ∀ v ∈ cs, v.oneCell' = true) :
    (Builtin.copy_ #[dT, dT] ty #[.slice (some ⟨b, 0, none⟩) n n, .slice (some ⟨g, 0, none⟩) n n]).run P w = .ok (goInt n) (w.setCells b 0 cs) := by
  have hl := run_loadCells_list (P := P) w ⟨g, 0, none⟩ cs hsrc
  have hst := run_storeCells_cells (P := P) b 0 cs 0 w (fun j hj => by simpa using (ht j hj).1) (fun j hj => by simpa using (ht j hj).2) h1
  cases hq : P.info? elem with
  | none => simp [hq] at hs
  | some i =>
    have hi : i.size = m := by simpa [hq] using hs
    rw [hn] at hl
    simp only [Nat.add_zero] at hst
    simp [Builtin.copy_, run_underlying hu, Builtin.lenOf, Builtin.firstCells, sizeOf, typeInfo, hq, hi, hl, hst]
theorem wpList_copy_run {P : Program} {w w' : World} {ops : Array Oper} {rest : List Oper} {o : Oper} {a : Act} {Q : Exit → Act → World → Prop} (hg : o.guard = none) (s x : Operand) (t : TypeId)
    (hop : o.op = Op.call { callee := Callee.builtin Builtin.copy, args := #[s, x], argTypes := #[t, t] }) (v u v' : Value) (hs : a.eval s = v) (hx : a.eval x = u)
    (hrun : (Builtin.copy_ #[t, t] o.type #[v, u]).run P w = .ok v' w') (h : wpList P ops Q rest (a.put o.dst v') w') : wpList P ops Q (o :: rest) a w := by
  refine wpList_plain hg fun K hK' => ?_
  unfold Oper.wp
  simp [execOp, hop, resolve, invoke, builtin, hs, hx, hrun, Result.andThen]
  exact hK' _ _ h

/-- The kernel's cells, list by list. -/
def fCell (K : Ker) (j : Nat) : Value := .int .i64 (K.F (j / 6) (j % 6))
def sCell (K : Ker) (j : Nat) : Value := if 4 ≤ j % 20 ∧ j % 20 ≤ 18 ∧ (j % 20) % 2 = 0 then .bool (K.B (j / 20) (j % 20)) else .int .i64 (K.S (j / 20) (j % 20))
def dCell (K : Ker) (j : Nat) : Value := .int .i64 (K.D (j / 5) (j % 5))
section
variable {bk bf bs bd : Nat} {K : Ker} {w : World}
theorem Rep.cellF (R : Rep w bk bf bs bd K) {j : Nat} (hj : j < K.nF * 6) : w.cell? ⟨bf, j, none⟩ = some (fCell K j) := by
  have := R.f (j / 6) (j % 6) (by omega) (by omega)
  rw [show j / 6 * 6 + j % 6 = j by omega] at this
  exact this
theorem Rep.cellS (R : Rep w bk bf bs bd K) {j : Nat} (hj : j < K.nS * 20) : w.cell? ⟨bs, j, none⟩ = some (sCell K j) := by
  unfold sCell
  split
  · have := R.b (j / 20) (j % 20) (by omega) (by assumption)
    rw [show j / 20 * 20 + j % 20 = j by omega] at this
    exact this
  · have := R.s (j / 20) (j % 20) (by omega) (by omega) (by assumption)
    rw [show j / 20 * 20 + j % 20 = j by omega] at this
    exact this
theorem Rep.cellD (R : Rep w bk bf bs bd K) {j : Nat} (hj : j < K.nD * 5) : w.cell? ⟨bd, j, none⟩ = some (dCell K j) := by
  have := R.d (j / 5) (j % 5) (by omega) (by omega)
  rw [show j / 5 * 5 + j % 5 = j by omega] at this
  exact this
end

set_option maxRecDepth 100000 in
set_option maxHeartbeats 1000000 in
theorem copiedFrame_any (g n : Nat) (hn : n ≤ 32) (f : Nat → Value) (w : World) (hg : g < w.heap.size) (hc : ∀ j, j < n * 6 → w.cell? ⟨g, j, none⟩ = some (f j)) (h1 : ∀ j, (f j).oneCell' = true) :
    Calls Tryz.prog 57 #[.slice (some ⟨g, 0, none⟩) n n] w fun e w' => e = .returned (.slice (some ⟨w.heap.size, 0, none⟩) n n) ∧ Below w.heap.size w w' ∧ w'.heap.size = w.heap.size + 1 ∧ w'.rowIs w.heap.size 71 (n * 6) f := by
  obtain ⟨C, hC, hmk⟩ := makeFrame n hn w
  have hrow := rowIs_new w C 71
  rw [hC] at hrow
  have hcp : ∀ ty, (Builtin.copy_ #[66, 66] ty #[.slice (some ⟨w.heap.size, 0, none⟩) n n, .slice (some ⟨g, 0, none⟩) n n]).run Tryz.prog (w.alloc (.cells C 71)) = .ok (goInt n) ((w.alloc (.cells C 71)).setCells w.heap.size 0 ((List.range (n * 6)).map f)) :=
    fun ty => run_copy_m _ _ _ 71 _ _ n 6 _ Tryz.underlying66 (by kernel_rfl) (by simp) (fun j v hv => by
      have hj : j < n * 6 := by have := (List.getElem?_eq_some_iff.1 hv).1; simpa using this
      rw [Addr.add_mid, Nat.zero_add, World.cell?_of_block (w := w) (a := ⟨g, j, none⟩) (Below.heap_alloc _ _ _ hg), hc j hj, ← hv, List.getElem?_map, List.getElem?_range hj]; rfl) (by simpa using rowIs_there hrow (by omega)) (fun v hv => by simp at hv; obtain ⟨j, _, rfl⟩ := hv; exact h1 j)
  have Hcp : Hid (∀ ty, _) := hcp
  have Hrow : Hid _ := hrow
  clear hcp hC hrow hc h1
  go_enter Tryz.func57, Tryz.ntmps57
  go_wp2_with (refine wpList_copy_run rfl _ _ 66 rfl (.slice (some ⟨w.heap.size, 0, none⟩) n n) (.slice (some ⟨g, 0, none⟩) n n) (goInt n) rfl rfl (Hcp.out _) ?_)
  go_ret
  refine ⟨rfl, below_setCells (Nat.le_refl _) _ _ ((Below.refl _ _).alloc (Nat.le_refl _) _), by rw [size_setCells]; simp, (rowIs_setCells _ 0 Hrow.out).congr fun j hj => ?_⟩
  rw [if_pos (by simp; exact hj), Nat.sub_zero, List.getD_eq_getElem?_getD, List.getElem?_map, List.getElem?_range hj]
  rfl

set_option maxRecDepth 100000 in
set_option maxHeartbeats 1000000 in
theorem copiedSlot_any (g n : Nat) (hn : n ≤ 32) (f : Nat → Value) (w : World) (hg : g < w.heap.size) (hc : ∀ j, j < n * 20 → w.cell? ⟨g, j, none⟩ = some (f j)) (h1 : ∀ j, (f j).oneCell' = true) :
    Calls Tryz.prog 58 #[.slice (some ⟨g, 0, none⟩) n n] w fun e w' => e = .returned (.slice (some ⟨w.heap.size, 0, none⟩) n n) ∧ Below w.heap.size w w' ∧ w'.heap.size = w.heap.size + 1 ∧ w'.rowIs w.heap.size 82 (n * 20) f := by
  obtain ⟨C, hC, hmk⟩ := makeSlot n hn w
  have hrow := rowIs_new w C 82
  rw [hC] at hrow
  have hcp : ∀ ty, (Builtin.copy_ #[72, 72] ty #[.slice (some ⟨w.heap.size, 0, none⟩) n n, .slice (some ⟨g, 0, none⟩) n n]).run Tryz.prog (w.alloc (.cells C 82)) = .ok (goInt n) ((w.alloc (.cells C 82)).setCells w.heap.size 0 ((List.range (n * 20)).map f)) :=
    fun ty => run_copy_m _ _ _ 82 _ _ n 20 _ Tryz.underlying72 (by kernel_rfl) (by simp) (fun j v hv => by
      have hj : j < n * 20 := by have := (List.getElem?_eq_some_iff.1 hv).1; simpa using this
      rw [Addr.add_mid, Nat.zero_add, World.cell?_of_block (w := w) (a := ⟨g, j, none⟩) (Below.heap_alloc _ _ _ hg), hc j hj, ← hv, List.getElem?_map, List.getElem?_range hj]; rfl) (by simpa using rowIs_there hrow (by omega)) (fun v hv => by simp at hv; obtain ⟨j, _, rfl⟩ := hv; exact h1 j)
  have Hcp : Hid (∀ ty, _) := hcp
  have Hrow : Hid _ := hrow
  clear hcp hC hrow hc h1
  go_enter Tryz.func58, Tryz.ntmps58
  go_wp2_with (refine wpList_copy_run rfl _ _ 72 rfl (.slice (some ⟨w.heap.size, 0, none⟩) n n) (.slice (some ⟨g, 0, none⟩) n n) (goInt n) rfl rfl (Hcp.out _) ?_)
  go_ret
  refine ⟨rfl, below_setCells (Nat.le_refl _) _ _ ((Below.refl _ _).alloc (Nat.le_refl _) _), by rw [size_setCells]; simp, (rowIs_setCells _ 0 Hrow.out).congr fun j hj => ?_⟩
  rw [if_pos (by simp; exact hj), Nat.sub_zero, List.getD_eq_getElem?_getD, List.getElem?_map, List.getElem?_range hj]
  rfl

set_option maxRecDepth 100000 in
set_option maxHeartbeats 1000000 in
theorem copiedDuct_any (g n : Nat) (hn : n ≤ 32) (f : Nat → Value) (w : World) (hg : g < w.heap.size) (hc : ∀ j, j < n * 5 → w.cell? ⟨g, j, none⟩ = some (f j)) (h1 : ∀ j, (f j).oneCell' = true) :
    Calls Tryz.prog 59 #[.slice (some ⟨g, 0, none⟩) n n] w fun e w' => e = .returned (.slice (some ⟨w.heap.size, 0, none⟩) n n) ∧ Below w.heap.size w w' ∧ w'.heap.size = w.heap.size + 1 ∧ w'.rowIs w.heap.size 87 (n * 5) f := by
  obtain ⟨C, hC, hmk⟩ := makeDuct n hn w
  have hrow := rowIs_new w C 87
  rw [hC] at hrow
  have hcp : ∀ ty, (Builtin.copy_ #[83, 83] ty #[.slice (some ⟨w.heap.size, 0, none⟩) n n, .slice (some ⟨g, 0, none⟩) n n]).run Tryz.prog (w.alloc (.cells C 87)) = .ok (goInt n) ((w.alloc (.cells C 87)).setCells w.heap.size 0 ((List.range (n * 5)).map f)) :=
    fun ty => run_copy_m _ _ _ 87 _ _ n 5 _ Tryz.underlying83 (by kernel_rfl) (by simp) (fun j v hv => by
      have hj : j < n * 5 := by have := (List.getElem?_eq_some_iff.1 hv).1; simpa using this
      rw [Addr.add_mid, Nat.zero_add, World.cell?_of_block (w := w) (a := ⟨g, j, none⟩) (Below.heap_alloc _ _ _ hg), hc j hj, ← hv, List.getElem?_map, List.getElem?_range hj]; rfl) (by simpa using rowIs_there hrow (by omega)) (fun v hv => by simp at hv; obtain ⟨j, _, rfl⟩ := hv; exact h1 j)
  have Hcp : Hid (∀ ty, _) := hcp
  have Hrow : Hid _ := hrow
  clear hcp hC hrow hc h1
  go_enter Tryz.func59, Tryz.ntmps59
  go_wp2_with (refine wpList_copy_run rfl _ _ 83 rfl (.slice (some ⟨w.heap.size, 0, none⟩) n n) (.slice (some ⟨g, 0, none⟩) n n) (goInt n) rfl rfl (Hcp.out _) ?_)
  go_ret
  refine ⟨rfl, below_setCells (Nat.le_refl _) _ _ ((Below.refl _ _).alloc (Nat.le_refl _) _), by rw [size_setCells]; simp, (rowIs_setCells _ 0 Hrow.out).congr fun j hj => ?_⟩
  rw [if_pos (by simp; exact hj), Nat.sub_zero, List.getD_eq_getElem?_getD, List.getElem?_map, List.getElem?_range hj]
  rfl
end Go.Proofs.YtcgabodkegcpgaaGreatDoor
namespace Go.Proofs.YtcgabodkegcpgaaGreatDoor
open Go.RowKit
set_option linter.unusedVariables false
attribute [local go_sem ↓] Go.wp_at_zero Go.wp_at_succ

/-- Three lists that hold the kernel's cells. -/
structure Snap (w : World) (gF gS gD : Nat) (K : Ker) : Prop where
  f : w.rowIs gF 71 (K.nF * 6) (fCell K)
  s : w.rowIs gS 82 (K.nS * 20) (sCell K)
  d : w.rowIs gD 87 (K.nD * 5) (dCell K)
theorem Snap.same {w w' : World} {gF gS gD : Nat} {K : Ker} (S : Snap w gF gS gD K) (h : ∀ k, k = gF ∨ k = gS ∨ k = gD → w'.heap[k]? = w.heap[k]?) : Snap w' gF gS gD K :=
  ⟨S.f.of_block (h _ (by simp)), S.s.of_block (h _ (by simp)), S.d.of_block (h _ (by simp))⟩
theorem one_f (K : Ker) (j : Nat) : (fCell K j).oneCell' = true := rfl
theorem one_d (K : Ker) (j : Nat) : (dCell K j).oneCell' = true := rfl
theorem one_s (K : Ker) (j : Nat) : (sCell K j).oneCell' = true := by unfold sCell; split <;> rfl

theorem res_block {w w1 w2 w3 : World} {C : Array Value} {t : TypeId} (b1 : Below (w.alloc (.cells C t)).drew.heap.size (w.alloc (.cells C t)).drew w1) (b2 : Below w1.heap.size w1 w2) (b3 : Below w2.heap.size w2 w3) :
    (∀ i, w3.cell? ⟨w.heap.size, i, none⟩ = C[i]?) ∧ (∀ i, w3.frozen? ⟨w.heap.size, i, none⟩ = false) := by
  have l0 : w.heap.size < (w.alloc (.cells C t)).drew.heap.size := by show w.heap.size < (w.alloc (.cells C t)).heap.size; simp
  have l1 := Nat.lt_of_lt_of_le l0 b1.size
  have l2 := Nat.lt_of_lt_of_le l1 b2.size
  have e : w3.heap[w.heap.size]? = (w.alloc (.cells C t)).heap[w.heap.size]? := (b3.block _ l2).trans ((b2.block _ l1).trans (b1.block _ l0))
  exact ⟨fun i => (World.cell?_of_block (w := w.alloc (.cells C t)) (a := ⟨w.heap.size, i, none⟩) e).trans (World.cell?_alloc_at _ _ _ _ rfl), fun i => (World.frozen?_of_block (w := w.alloc (.cells C t)) (a := ⟨w.heap.size, i, none⟩) e).trans (World.frozen?_alloc_at _ _ _ _ rfl)⟩

def stVal (K : Ker) (gF gS gD : Nat) : Value := .agg #[.slice (some ⟨gF, 0, none⟩) K.nF K.nF, .slice (some ⟨gS, 0, none⟩) K.nS K.nS, .slice (some ⟨gD, 0, none⟩) K.nD K.nD]

def stCells (K : Ker) (g : Nat) : List Value := [.slice (some ⟨g + 1, 0, none⟩) K.nF K.nF, .slice (some ⟨g + 1 + 1, 0, none⟩) K.nS K.nS, .slice (some ⟨g + 1 + 1 + 1, 0, none⟩) K.nD K.nD]
theorem res_there {w3 : World} {g : Nat} {K : Ker} {n : Nat} (yc : ∀ i, w3.cell? ⟨g, i, none⟩ = (#[Value.slice none 0 0, Value.slice none 0 0, Value.slice none 0 0] : Array Value)[i]?) (yf : ∀ i, w3.frozen? ⟨g, i, none⟩ = false) : w3.there g 0 (stCells K n).length := fun j hj => by
  have hj' : j < 3 := hj
  refine ⟨?_, ?_⟩
  · rw [yc]; match j, hj' with | 0, _ => rfl | 1, _ => rfl | 2, _ => rfl
  · exact yf _
theorem res_done {w w1 w2 w3 : World} {K : Ker} {C : Array Value} {t : TypeId} (b1 : Below (w.alloc (.cells C t)).drew.heap.size (w.alloc (.cells C t)).drew w1) (b2 : Below w1.heap.size w1 w2) (b3 : Below w2.heap.size w2 w3)
    (z1 : w1.heap.size = (w.alloc (.cells C t)).drew.heap.size + 1) (z2 : w2.heap.size = w1.heap.size + 1) (r1 : w1.rowIs (w.alloc (.cells C t)).drew.heap.size 71 (K.nF * 6) (fCell K)) (r2 : w2.rowIs w1.heap.size 82 (K.nS * 20) (sCell K)) (r3 : w3.rowIs w2.heap.size 87 (K.nD * 5) (dCell K)) :
    ∃ gF gS gD, Ending.returned (.agg (stCells K w.heap.size).toArray) = .returned (stVal K gF gS gD) ∧ Below w.heap.size w (w3.setCells w.heap.size 0 (stCells K w.heap.size)) ∧ Snap (w3.setCells w.heap.size 0 (stCells K w.heap.size)) gF gS gD K ∧ w.heap.size ≤ gF ∧ w.heap.size ≤ gS ∧ w.heap.size ≤ gD := by
  have l0 : (w.alloc (.cells C t)).drew.heap.size = w.heap.size + 1 := by show (w.alloc (.cells C t)).heap.size = _; simp
  rw [l0] at z1 r1
  rw [z1] at z2 r2
  rw [z2] at r3
  refine ⟨w.heap.size + 1, w.heap.size + 1 + 1, w.heap.size + 1 + 1 + 1, rfl, below_setCells (Nat.le_refl _) _ _ ?_, ?_, by omega, by omega, by omega⟩
  · have a0 : Below w.heap.size w (w.alloc (.cells C t)) := (Below.refl _ _).alloc (Nat.le_refl _) _
    refine ⟨?_, ?_, ?_, ?_, fun k hk => ?_⟩
    · rw [b3.os, b2.os, b1.os]; exact a0.os
    · rw [b3.tape, b2.tape, b1.tape]; exact a0.tape
    · rw [b3.output, b2.output, b1.output]; exact a0.output
    · have := b3.size; omega
    · exact (b3.block k (by omega)).trans ((b2.block k (by omega)).trans ((b1.block k (by omega)).trans (a0.block k hk)))
  · refine Snap.same (w := w3) ⟨(r1.of_block (b2.block _ (by omega))).of_block (b3.block _ (by omega)), r2.of_block (b3.block _ (by omega)), r3⟩ ?_
    rintro k (rfl | rfl | rfl) <;> exact heap_setCells (by omega) _ _ _

section
variable {bk bf bs bd : Nat} {K : Ker} {w : World}
set_option maxRecDepth 100000 in
set_option maxHeartbeats 2000000 in
theorem state_rep (R : Rep w bk bf bs bd K) :
    Calls Tryz.prog 33 #[.pointer (some ⟨bk, 0, none⟩)] w fun e w' => ∃ gF gS gD, e = .returned (stVal K gF gS gD) ∧ Below w.heap.size w w' ∧ Snap w' gF gS gD K ∧ w.heap.size ≤ gF ∧ w.heap.size ≤ gS ∧ w.heap.size ≤ gD := by
  have HR : Hid (Rep w bk bf bs bd K) := R
  have k0 := fun o => (HR.out.alloc o).k0
  have k1 := fun o => (HR.out.alloc o).k1
  have k2 := fun o => (HR.out.alloc o).k2
  have HF : Hid (K.nF ≤ 32 ∧ K.nS ≤ 6 ∧ K.nD ≤ 4) := ⟨R.hF, R.hS, R.hD⟩
  have ek : w.heap.size ≠ bk := World.new_ne w ⟨bk, 0, none⟩ R.k0
  have ek' : bk ≠ w.heap.size := Ne.symm ek
  clear R
  go_enter Tryz.func33, Tryz.ntmps33
  go_wp2_with fail
  go_region_held3 (fun w' => w'.cell? ⟨bk, 0, none⟩ = some (.slice (some ⟨bf, 0, none⟩) K.nF K.nF) ∧ w'.cell? ⟨bk, 1, none⟩ = some (.slice (some ⟨bs, 0, none⟩) K.nS K.nS) ∧ w'.cell? ⟨bk, 2, none⟩ = some (.slice (some ⟨bd, 0, none⟩) K.nD K.nD)) ((repeat' apply And.intro) <;> (first | assumption | (go_keep; done)))
    (first | (go_at_call 57; refine (copiedFrame_any bf K.nF HF.out.1 (fCell K) _ (HR.out.alloc _).drew.lf (fun j hj => (HR.out.alloc _).drew.cellF hj) (one_f K)).mono ?_; rintro e w1 ⟨rfl, b1, z1, r1⟩; have HR1 : Hid (Rep w1 bk bf bs bd K) := (HR.out.alloc _).drew.same b1.size (fun k h1 _ => b1.block k h1); have u0 := HR1.out.k0; have u1 := HR1.out.k1; have u2 := HR1.out.k2) | (go_at_call 58; refine (copiedSlot_any bs K.nS (by have := HF.out; omega) (sCell K) _ HR1.out.ls (fun j hj => HR1.out.cellS hj) (one_s K)).mono ?_; rintro e w2 ⟨rfl, b2, z2, r2⟩; have HR2 : Hid (Rep w2 bk bf bs bd K) := HR1.out.same b2.size (fun k h1 _ => b2.block k h1); have v0 := HR2.out.k0; have v1 := HR2.out.k1; have v2 := HR2.out.k2) | (go_at_call 59; refine (copiedDuct_any bd K.nD (by have := HF.out; omega) (dCell K) _ HR2.out.ld (fun j hj => HR2.out.cellD hj) (one_d K)).mono ?_; rintro e w3 ⟨rfl, b3, z3, r3⟩; have HR3 : Hid (Rep w3 bk bf bs bd K) := HR2.out.same b3.size (fun k h1 _ => b3.block k h1); have x0 := HR3.out.k0; have x1 := HR3.out.k1; have x2 := HR3.out.k2; have yc := (res_block b1 b2 b3).1; have yf := (res_block b1 b2 b3).2; have y0 : w3.cell? ⟨w.heap.size, 0, none⟩ = some (.slice none 0 0) := yc 0; have y1 : w3.cell? ⟨w.heap.size, 1, none⟩ = some (.slice none 0 0) := yc 1; have y2 : w3.cell? ⟨w.heap.size, 2, none⟩ = some (.slice none 0 0) := yc 2; have f0 := yf 0; have f1 := yf 1; have f2 := yf 2; have HT : Hid (w3.there w.heap.size 0 (stCells K w.heap.size).length) := res_there yc yf))
  rename_i Q1 K1 hK hH
  refine hK _ _ ?_
  subst Q1
  refine wp_ret ?_
  show bodyPost _ _ _ _ _ (w3.setCells w.heap.size 0 (stCells K w.heap.size))
  refine bodyPost_ret (v := .agg (stCells K w.heap.size).toArray) (results_cell_range Tryz.results33 _ (w3.setCells w.heap.size 0 (stCells K w.heap.size)) w.heap.size (stCells K w.heap.size) _ rfl (World.rangeAt_setCells_same w3 w.heap.size 0 _ HT.out) Tryz.underlying109 rfl (by kernel_rfl)) rfl ?_
  exact res_done b1 b2 b3 z1 z2 r1 r2 r3
end
end Go.Proofs.YtcgabodkegcpgaaGreatDoor
