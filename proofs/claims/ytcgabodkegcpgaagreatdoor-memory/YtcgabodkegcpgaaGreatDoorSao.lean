/- Comparing lists of structs: it answers, and true where the cells agree. -/
import Derived.Test.YtcgabodkegcpgaaGreatDoorSam
namespace Go.Proofs.YtcgabodkegcpgaaGreatDoor
open Go.RowKit
set_option linter.unusedVariables false
set_option linter.unusedSimpArgs false
attribute [local go_sem ↓] Go.wp_at_zero Go.wp_at_succ

def cut (f : Nat → Value) (o m : Nat) : List Value := (List.range m).map fun j => f (o + j)
theorem cut_get (f : Nat → Value) (o m j : Nat) (h : j < m) : (cut f o m).toArray[j]? = some (f (o + j)) := by simp [cut, h]
theorem cut_eq {f g : Nat → Value} {o m : Nat} (h : ∀ j, j < m → f (o + j) = g (o + j)) : cut f o m = cut g o m := List.map_congr_left fun j hj => h j (by simpa using hj)
theorem below_drew {B : Nat} {a w : World} (h : Below B a w) : Below B a w.drew := ⟨h.os, h.tape, h.output, h.size, h.block⟩
theorem cut_len (f : Nat → Value) (o m : Nat) : (cut f o m).length = m := by simp [cut]

set_option maxRecDepth 100000 in
theorem sameDucts_gen (w : World) (n ga gb : Nat) (hn : n ≤ 32) (f g : Nat → Value) (hf : w.rowIs ga 87 (n * 5) f) (bo : Option Addr) (cb : Nat) (hbo : 0 < n → bo = some ⟨gb, 0, none⟩) (hg : 0 < n → gb < w.heap.size ∧ ∀ k, k < n → w.rangeAt gb (k * 5) (cut g (k * 5) 5))
    (hc : ∀ k, k < n → ∃ r, Cmp 87 (cut f (k * 5) 5) (cut g (k * 5) 5) r ∧ (cut f (k * 5) 5 = cut g (k * 5) 5 → r = true)) :
    Calls Tryz.prog 84 #[.slice (some ⟨ga, 0, none⟩) n n, .slice bo n cb] w fun e w' => ∃ r, e = .returned (.bool r) ∧ ((∀ j, j < n * 5 → f j = g j) → r = true) ∧ Below w.heap.size w w' := by
  have Hf : Hid (w.rowIs ga 87 (n * 5) f) := hf
  have Hg : Hid (0 < n → gb < w.heap.size ∧ ∀ k, k < n → w.rangeAt gb (k * 5) (cut g (k * 5) 5)) := hg
  have Hbo : Hid (0 < n → bo = some ⟨gb, 0, none⟩) := hbo
  have Hc : Hid (∀ k, k < n → ∃ r, Cmp 87 (cut f (k * 5) 5) (cut g (k * 5) 5) r ∧ (cut f (k * 5) 5 = cut g (k * 5) 5 → r = true)) := hc
  clear hf hg hc hbo
  go_enter Tryz.func84, Tryz.ntmps84
  go_wp2
  go_loopw [5] (fun i w' => ∃ k : Nat, k ≤ n ∧ i = .int .i64 k ∧ Below w.heap.size w w') (fun i _ => n - (intOf i).toNat)
  case atStart => exact ⟨0, by omega, rfl, Below.refl _ _⟩
  case round =>
    obtain ⟨k, hk, rfl, hb⟩ := hrel
    have Hb : Hid (Below w.heap.size w wr) := hb
    clear hb
    by_cases hlt : k < n
    · obtain ⟨r, hr, hrt⟩ := Hc.out k hlt
      have Hrt : Hid (cut f (k * 5) 5 = cut g (k * 5) 5 → r = true) := hrt
      have Lf : Hid (wr.rangeAt ga (k * 5) (cut f (k * 5) 5)) := by
        have h := rowIs_range (Hf.out.of_block (Hb.out.block _ (World.block_lt_of_cell? w ⟨ga, 0, none⟩ (Hf.out.cell (by omega))))) (o := k * 5) (m := 5) (by omega)
        exact h
      have Lg : Hid (wr.rangeAt gb (k * 5) (cut g (k * 5) 5)) := by
        obtain ⟨hl, hr⟩ := Hg.out (by omega)
        exact fun j v hv => (World.cell?_of_block (w := w) (a := ⟨gb, k * 5 + j, none⟩) (Hb.out.block _ hl)).trans (hr k hlt j v hv)
      have ei : Hid ((Tryz.prog.info? 87).map (·.size) = some (cut f (k * 5) 5).length) := by unfold Hid; rw [cut_len]; kernel_rfl
      have ej : Hid ((Tryz.prog.info? 87).map (·.size) = some (cut g (k * 5) 5).length) := by unfold Hid; rw [cut_len]; kernel_rfl
      have He : Hid ((∀ j, j < n * 5 → f j = g j) → cut f (k * 5) 5 = cut g (k * 5) 5) := fun h => cut_eq (fun j hj => h _ (by omega))
      unfold Cmp at hr
      clear hrt
      generalize cut f (k * 5) 5 = cs at *
      generalize cut g (k * 5) 5 = ds at *
      have M1 : ∀ w' : World, w'.rangeAt ga (k * 5) cs ∧ w'.rangeAt gb (k * 5) ds → (Instr.loadAt 87 (.pointer (some ⟨ga, k * 5, none⟩))).run Tryz.prog w' = .ok (.agg cs.toArray) w' := fun w' h => run_loadAt_mid w' ga (k * 5) 87 cs _ h.1 Tryz.underlying87 rfl ei.out
      have M2 : ∀ w' : World, w'.rangeAt ga (k * 5) cs ∧ w'.rangeAt gb (k * 5) ds → (Instr.loadAt 87 (.pointer (some ⟨gb, k * 5, none⟩))).run Tryz.prog w' = .ok (.agg ds.toArray) w' := fun w' h => run_loadAt_mid w' gb (k * 5) 87 ds _ h.2 Tryz.underlying87 rfl ej.out
      have l1 : wr.rangeAt ga (k * 5) cs := Lf.out
      have l2 : wr.rangeAt gb (k * 5) ds := Lg.out
      have b1 : (0 : Int) ≤ (k : Int) := by omega
      have b2 : (k : Int) < (n : Int) := by omega
      clear M1 M2
      obtain rfl : bo = some ⟨gb, 0, none⟩ := Hbo.out (by omega)
      · go_wp2_with fail
        refine wp_region_held_drew (S := fun w' => w'.rangeAt ga (k * 5) cs ∧ w'.rangeAt gb (k * 5) ds) (by kernel_rfl) ⟨(World.rangeAt_drew _ _ _ _).2 Lf.out, (World.rangeAt_drew _ _ _ _).2 Lg.out⟩ (fun hS => ?_)
        refine wpAnyH_take (i := 0) (oi := { dst := some 17, op := .move (.tmp 0), type := 83, pos := "book.go:154", after := #[], guard := none }) (v := .slice (some ⟨ga, 0, none⟩) n n) rfl (by kernel_rfl) (by kernel_rfl) (by kernel_rfl) (fun _ _ _ h => h) (Or.inl ⟨by rfl, fun w h => by go_simp⟩) (by assumption) ?_
        try simp only [Act.put, List.setIfInBounds_toArray, List.set_cons_zero, List.set_cons_succ]
        refine wpAnyH_take (i := 1) (oi := { dst := some 18, op := .move (.tmp 5), type := 3, pos := "book.go:154", after := #[], guard := none }) (v := .int .i64 k) rfl (by kernel_rfl) (by kernel_rfl) (by kernel_rfl) (fun _ _ _ h => h) (Or.inl ⟨by rfl, fun w h => by go_simp⟩) (by assumption) ?_
        try simp only [Act.put, List.setIfInBounds_toArray, List.set_cons_zero, List.set_cons_succ]
        refine wpAnyH_take (i := 2) (oi := { dst := some 19, op := .indexAddr 83 (.tmp 17) (.tmp 18), type := 0, pos := "book.go:154", after := #[{ on := 0, ground := .data }, { on := 1, ground := .data }], guard := none }) (v := .pointer (some ⟨ga, k * 5, none⟩)) rfl (by kernel_rfl) (by kernel_rfl) (by kernel_rfl) (fun _ _ _ h => h) (Or.inl ⟨by rfl, fun w h => by go_simp⟩) (by assumption) ?_
        try simp only [Act.put, List.setIfInBounds_toArray, List.set_cons_zero, List.set_cons_succ]
        refine wpAnyH_take (i := 3) (oi := { dst := some 20, op := .load 87 (.tmp 19), type := 87, pos := "book.go:154", after := #[{ on := 2, ground := .data }], guard := none }) (v := .agg cs.toArray) rfl (by kernel_rfl) (by kernel_rfl) (by kernel_rfl) (fun _ _ _ h => h) (yieldsIf_load_mid (by rfl) _ _ rfl _ _ rfl _ _ (fun w h => h.1) Tryz.underlying87 rfl ei.out) (by assumption) ?_
        try simp only [Act.put, List.setIfInBounds_toArray, List.set_cons_zero, List.set_cons_succ]
        refine wpAnyH_take (i := 4) (oi := { dst := some 21, op := .move (.tmp 1), type := 83, pos := "book.go:154", after := #[], guard := none }) (v := .slice (some ⟨gb, 0, none⟩) n cb) rfl (by kernel_rfl) (by kernel_rfl) (by kernel_rfl) (fun _ _ _ h => h) (Or.inl ⟨by rfl, fun w h => by go_simp⟩) (by assumption) ?_
        try simp only [Act.put, List.setIfInBounds_toArray, List.set_cons_zero, List.set_cons_succ]
        refine wpAnyH_take (i := 5) (oi := { dst := some 22, op := .move (.tmp 5), type := 3, pos := "book.go:154", after := #[], guard := none }) (v := .int .i64 k) rfl (by kernel_rfl) (by kernel_rfl) (by kernel_rfl) (fun _ _ _ h => h) (Or.inl ⟨by rfl, fun w h => by go_simp⟩) (by assumption) ?_
        try simp only [Act.put, List.setIfInBounds_toArray, List.set_cons_zero, List.set_cons_succ]
        refine wpAnyH_take (i := 6) (oi := { dst := some 23, op := .indexAddr 83 (.tmp 21) (.tmp 22), type := 0, pos := "book.go:154", after := #[{ on := 4, ground := .data }, { on := 5, ground := .data }], guard := none }) (v := .pointer (some ⟨gb, k * 5, none⟩)) rfl (by kernel_rfl) (by kernel_rfl) (by kernel_rfl) (fun _ _ _ h => h) (Or.inl ⟨by rfl, fun w h => by go_simp⟩) (by assumption) ?_
        try simp only [Act.put, List.setIfInBounds_toArray, List.set_cons_zero, List.set_cons_succ]
        refine wpAnyH_take (i := 7) (oi := { dst := some 24, op := .load 87 (.tmp 23), type := 87, pos := "book.go:154", after := #[{ on := 6, ground := .data }], guard := none }) (v := .agg ds.toArray) rfl (by kernel_rfl) (by kernel_rfl) (by kernel_rfl) (fun _ _ _ h => h) (yieldsIf_load_mid (by rfl) _ _ rfl _ _ rfl _ _ (fun w h => h.2) Tryz.underlying87 rfl ej.out) (by assumption) ?_
        try simp only [Act.put, List.setIfInBounds_toArray, List.set_cons_zero, List.set_cons_succ]
        refine wpAnyH_take (i := 8) (oi := { dst := some 25, op := .binOp .neq 87 (.tmp 20) (.tmp 24) 87, type := 4, pos := "book.go:154", after := #[{ on := 3, ground := .data }, { on := 7, ground := .data }], guard := none }) (v := .bool !r) rfl (by kernel_rfl) (by kernel_rfl) (by kernel_rfl) (fun _ _ _ h => h) (Or.inl ⟨by rfl, fun w h => by go_simp⟩) (by assumption) ?_
        try simp only [Act.put, List.setIfInBounds_toArray, List.set_cons_zero, List.set_cons_succ]
        refine wpAnyH_done (by kernel_rfl) ?_ _
        cases r
        · go_wp2
          go_ret
          exact ⟨false, rfl, fun h => Hrt.out (He.out h), below_drew Hb.out⟩
        · go_wp2
          exact ⟨⟨k + 1, by omega, by go_num, below_drew Hb.out⟩, by simp [intOf]; omega⟩
    · obtain rfl : k = n := by omega
      go_wp2
      go_ret
      exact ⟨true, rfl, fun _ => rfl, Hb.out⟩
theorem sameDucts_any (w : World) (n ga gb : Nat) (hn : n ≤ 32) (f g : Nat → Value) (hf : w.rowIs ga 87 (n * 5) f) (hg : w.rowIs gb 87 (n * 5) g)
    (hc : ∀ k, k < n → ∃ r, Cmp 87 (cut f (k * 5) 5) (cut g (k * 5) 5) r ∧ (cut f (k * 5) 5 = cut g (k * 5) 5 → r = true)) :
    Calls Tryz.prog 84 #[.slice (some ⟨ga, 0, none⟩) n n, .slice (some ⟨gb, 0, none⟩) n n] w fun e w' => ∃ r, e = .returned (.bool r) ∧ ((∀ j, j < n * 5 → f j = g j) → r = true) ∧ Below w.heap.size w w' :=
  sameDucts_gen w n ga gb hn f g hf (some ⟨gb, 0, none⟩) n (fun _ => rfl) (fun h => ⟨World.block_lt_of_cell? w ⟨gb, 0, none⟩ (hg.cell (by omega)), fun k hk => rowIs_range hg (o := k * 5) (m := 5) (by omega)⟩) hc
set_option maxRecDepth 100000 in
theorem sameFrames_gen (w : World) (n ga gb : Nat) (hn : n ≤ 32) (f g : Nat → Value) (hf : w.rowIs ga 71 (n * 6) f) (bo : Option Addr) (cb : Nat) (hbo : 0 < n → bo = some ⟨gb, 0, none⟩) (hg : 0 < n → gb < w.heap.size ∧ ∀ k, k < n → w.rangeAt gb (k * 6) (cut g (k * 6) 6))
    (hc : ∀ k, k < n → ∃ r, Cmp 71 (cut f (k * 6) 6) (cut g (k * 6) 6) r ∧ (cut f (k * 6) 6 = cut g (k * 6) 6 → r = true)) :
    Calls Tryz.prog 82 #[.slice (some ⟨ga, 0, none⟩) n n, .slice bo n cb] w fun e w' => ∃ r, e = .returned (.bool r) ∧ ((∀ j, j < n * 6 → f j = g j) → r = true) ∧ Below w.heap.size w w' := by
  have Hf : Hid (w.rowIs ga 71 (n * 6) f) := hf
  have Hg : Hid (0 < n → gb < w.heap.size ∧ ∀ k, k < n → w.rangeAt gb (k * 6) (cut g (k * 6) 6)) := hg
  have Hbo : Hid (0 < n → bo = some ⟨gb, 0, none⟩) := hbo
  have Hc : Hid (∀ k, k < n → ∃ r, Cmp 71 (cut f (k * 6) 6) (cut g (k * 6) 6) r ∧ (cut f (k * 6) 6 = cut g (k * 6) 6 → r = true)) := hc
  clear hf hg hc hbo
  go_enter Tryz.func82, Tryz.ntmps82
  go_wp2
  go_loopw [5] (fun i w' => ∃ k : Nat, k ≤ n ∧ i = .int .i64 k ∧ Below w.heap.size w w') (fun i _ => n - (intOf i).toNat)
  case atStart => exact ⟨0, by omega, rfl, Below.refl _ _⟩
  case round =>
    obtain ⟨k, hk, rfl, hb⟩ := hrel
    have Hb : Hid (Below w.heap.size w wr) := hb
    clear hb
    by_cases hlt : k < n
    · obtain ⟨r, hr, hrt⟩ := Hc.out k hlt
      have Hrt : Hid (cut f (k * 6) 6 = cut g (k * 6) 6 → r = true) := hrt
      have Lf : Hid (wr.rangeAt ga (k * 6) (cut f (k * 6) 6)) := by
        have h := rowIs_range (Hf.out.of_block (Hb.out.block _ (World.block_lt_of_cell? w ⟨ga, 0, none⟩ (Hf.out.cell (by omega))))) (o := k * 6) (m := 6) (by omega)
        exact h
      have Lg : Hid (wr.rangeAt gb (k * 6) (cut g (k * 6) 6)) := by
        obtain ⟨hl, hr⟩ := Hg.out (by omega)
        exact fun j v hv => (World.cell?_of_block (w := w) (a := ⟨gb, k * 6 + j, none⟩) (Hb.out.block _ hl)).trans (hr k hlt j v hv)
      have ei : Hid ((Tryz.prog.info? 71).map (·.size) = some (cut f (k * 6) 6).length) := by unfold Hid; rw [cut_len]; kernel_rfl
      have ej : Hid ((Tryz.prog.info? 71).map (·.size) = some (cut g (k * 6) 6).length) := by unfold Hid; rw [cut_len]; kernel_rfl
      have He : Hid ((∀ j, j < n * 6 → f j = g j) → cut f (k * 6) 6 = cut g (k * 6) 6) := fun h => cut_eq (fun j hj => h _ (by omega))
      unfold Cmp at hr
      clear hrt
      generalize cut f (k * 6) 6 = cs at *
      generalize cut g (k * 6) 6 = ds at *
      have M1 : ∀ w' : World, w'.rangeAt ga (k * 6) cs ∧ w'.rangeAt gb (k * 6) ds → (Instr.loadAt 71 (.pointer (some ⟨ga, k * 6, none⟩))).run Tryz.prog w' = .ok (.agg cs.toArray) w' := fun w' h => run_loadAt_mid w' ga (k * 6) 71 cs _ h.1 Tryz.underlying71 rfl ei.out
      have M2 : ∀ w' : World, w'.rangeAt ga (k * 6) cs ∧ w'.rangeAt gb (k * 6) ds → (Instr.loadAt 71 (.pointer (some ⟨gb, k * 6, none⟩))).run Tryz.prog w' = .ok (.agg ds.toArray) w' := fun w' h => run_loadAt_mid w' gb (k * 6) 71 ds _ h.2 Tryz.underlying71 rfl ej.out
      have l1 : wr.rangeAt ga (k * 6) cs := Lf.out
      have l2 : wr.rangeAt gb (k * 6) ds := Lg.out
      have b1 : (0 : Int) ≤ (k : Int) := by omega
      have b2 : (k : Int) < (n : Int) := by omega
      clear M1 M2
      obtain rfl : bo = some ⟨gb, 0, none⟩ := Hbo.out (by omega)
      · go_wp2_with fail
        refine wp_region_held_drew (S := fun w' => w'.rangeAt ga (k * 6) cs ∧ w'.rangeAt gb (k * 6) ds) (by kernel_rfl) ⟨(World.rangeAt_drew _ _ _ _).2 Lf.out, (World.rangeAt_drew _ _ _ _).2 Lg.out⟩ (fun hS => ?_)
        refine wpAnyH_take (i := 0) (oi := { dst := some 17, op := .move (.tmp 0), type := 66, pos := "book.go:130", after := #[], guard := none }) (v := .slice (some ⟨ga, 0, none⟩) n n) rfl (by kernel_rfl) (by kernel_rfl) (by kernel_rfl) (fun _ _ _ h => h) (Or.inl ⟨by rfl, fun w h => by go_simp⟩) (by assumption) ?_
        try simp only [Act.put, List.setIfInBounds_toArray, List.set_cons_zero, List.set_cons_succ]
        refine wpAnyH_take (i := 1) (oi := { dst := some 18, op := .move (.tmp 5), type := 3, pos := "book.go:130", after := #[], guard := none }) (v := .int .i64 k) rfl (by kernel_rfl) (by kernel_rfl) (by kernel_rfl) (fun _ _ _ h => h) (Or.inl ⟨by rfl, fun w h => by go_simp⟩) (by assumption) ?_
        try simp only [Act.put, List.setIfInBounds_toArray, List.set_cons_zero, List.set_cons_succ]
        refine wpAnyH_take (i := 2) (oi := { dst := some 19, op := .indexAddr 66 (.tmp 17) (.tmp 18), type := 0, pos := "book.go:130", after := #[{ on := 0, ground := .data }, { on := 1, ground := .data }], guard := none }) (v := .pointer (some ⟨ga, k * 6, none⟩)) rfl (by kernel_rfl) (by kernel_rfl) (by kernel_rfl) (fun _ _ _ h => h) (Or.inl ⟨by rfl, fun w h => by go_simp⟩) (by assumption) ?_
        try simp only [Act.put, List.setIfInBounds_toArray, List.set_cons_zero, List.set_cons_succ]
        refine wpAnyH_take (i := 3) (oi := { dst := some 20, op := .load 71 (.tmp 19), type := 71, pos := "book.go:130", after := #[{ on := 2, ground := .data }], guard := none }) (v := .agg cs.toArray) rfl (by kernel_rfl) (by kernel_rfl) (by kernel_rfl) (fun _ _ _ h => h) (yieldsIf_load_mid (by rfl) _ _ rfl _ _ rfl _ _ (fun w h => h.1) Tryz.underlying71 rfl ei.out) (by assumption) ?_
        try simp only [Act.put, List.setIfInBounds_toArray, List.set_cons_zero, List.set_cons_succ]
        refine wpAnyH_take (i := 4) (oi := { dst := some 21, op := .move (.tmp 1), type := 66, pos := "book.go:130", after := #[], guard := none }) (v := .slice (some ⟨gb, 0, none⟩) n cb) rfl (by kernel_rfl) (by kernel_rfl) (by kernel_rfl) (fun _ _ _ h => h) (Or.inl ⟨by rfl, fun w h => by go_simp⟩) (by assumption) ?_
        try simp only [Act.put, List.setIfInBounds_toArray, List.set_cons_zero, List.set_cons_succ]
        refine wpAnyH_take (i := 5) (oi := { dst := some 22, op := .move (.tmp 5), type := 3, pos := "book.go:130", after := #[], guard := none }) (v := .int .i64 k) rfl (by kernel_rfl) (by kernel_rfl) (by kernel_rfl) (fun _ _ _ h => h) (Or.inl ⟨by rfl, fun w h => by go_simp⟩) (by assumption) ?_
        try simp only [Act.put, List.setIfInBounds_toArray, List.set_cons_zero, List.set_cons_succ]
        refine wpAnyH_take (i := 6) (oi := { dst := some 23, op := .indexAddr 66 (.tmp 21) (.tmp 22), type := 0, pos := "book.go:130", after := #[{ on := 4, ground := .data }, { on := 5, ground := .data }], guard := none }) (v := .pointer (some ⟨gb, k * 6, none⟩)) rfl (by kernel_rfl) (by kernel_rfl) (by kernel_rfl) (fun _ _ _ h => h) (Or.inl ⟨by rfl, fun w h => by go_simp⟩) (by assumption) ?_
        try simp only [Act.put, List.setIfInBounds_toArray, List.set_cons_zero, List.set_cons_succ]
        refine wpAnyH_take (i := 7) (oi := { dst := some 24, op := .load 71 (.tmp 23), type := 71, pos := "book.go:130", after := #[{ on := 6, ground := .data }], guard := none }) (v := .agg ds.toArray) rfl (by kernel_rfl) (by kernel_rfl) (by kernel_rfl) (fun _ _ _ h => h) (yieldsIf_load_mid (by rfl) _ _ rfl _ _ rfl _ _ (fun w h => h.2) Tryz.underlying71 rfl ej.out) (by assumption) ?_
        try simp only [Act.put, List.setIfInBounds_toArray, List.set_cons_zero, List.set_cons_succ]
        refine wpAnyH_take (i := 8) (oi := { dst := some 25, op := .binOp .neq 71 (.tmp 20) (.tmp 24) 71, type := 4, pos := "book.go:130", after := #[{ on := 3, ground := .data }, { on := 7, ground := .data }], guard := none }) (v := .bool !r) rfl (by kernel_rfl) (by kernel_rfl) (by kernel_rfl) (fun _ _ _ h => h) (Or.inl ⟨by rfl, fun w h => by go_simp⟩) (by assumption) ?_
        try simp only [Act.put, List.setIfInBounds_toArray, List.set_cons_zero, List.set_cons_succ]
        refine wpAnyH_done (by kernel_rfl) ?_ _
        cases r
        · go_wp2
          go_ret
          exact ⟨false, rfl, fun h => Hrt.out (He.out h), below_drew Hb.out⟩
        · go_wp2
          exact ⟨⟨k + 1, by omega, by go_num, below_drew Hb.out⟩, by simp [intOf]; omega⟩
    · obtain rfl : k = n := by omega
      go_wp2
      go_ret
      exact ⟨true, rfl, fun _ => rfl, Hb.out⟩
theorem sameFrames_any (w : World) (n ga gb : Nat) (hn : n ≤ 32) (f g : Nat → Value) (hf : w.rowIs ga 71 (n * 6) f) (hg : w.rowIs gb 71 (n * 6) g)
    (hc : ∀ k, k < n → ∃ r, Cmp 71 (cut f (k * 6) 6) (cut g (k * 6) 6) r ∧ (cut f (k * 6) 6 = cut g (k * 6) 6 → r = true)) :
    Calls Tryz.prog 82 #[.slice (some ⟨ga, 0, none⟩) n n, .slice (some ⟨gb, 0, none⟩) n n] w fun e w' => ∃ r, e = .returned (.bool r) ∧ ((∀ j, j < n * 6 → f j = g j) → r = true) ∧ Below w.heap.size w w' :=
  sameFrames_gen w n ga gb hn f g hf (some ⟨gb, 0, none⟩) n (fun _ => rfl) (fun h => ⟨World.block_lt_of_cell? w ⟨gb, 0, none⟩ (hg.cell (by omega)), fun k hk => rowIs_range hg (o := k * 6) (m := 6) (by omega)⟩) hc
set_option maxRecDepth 100000 in
theorem sameSlots_gen (w : World) (n ga gb : Nat) (hn : n ≤ 32) (f g : Nat → Value) (hf : w.rowIs ga 82 (n * 20) f) (bo : Option Addr) (cb : Nat) (hbo : 0 < n → bo = some ⟨gb, 0, none⟩) (hg : 0 < n → gb < w.heap.size ∧ ∀ k, k < n → w.rangeAt gb (k * 20) (cut g (k * 20) 20))
    (hc : ∀ k, k < n → ∃ r, Cmp 82 (cut f (k * 20) 20) (cut g (k * 20) 20) r ∧ (cut f (k * 20) 20 = cut g (k * 20) 20 → r = true)) :
    Calls Tryz.prog 83 #[.slice (some ⟨ga, 0, none⟩) n n, .slice bo n cb] w fun e w' => ∃ r, e = .returned (.bool r) ∧ ((∀ j, j < n * 20 → f j = g j) → r = true) ∧ Below w.heap.size w w' := by
  have Hf : Hid (w.rowIs ga 82 (n * 20) f) := hf
  have Hg : Hid (0 < n → gb < w.heap.size ∧ ∀ k, k < n → w.rangeAt gb (k * 20) (cut g (k * 20) 20)) := hg
  have Hbo : Hid (0 < n → bo = some ⟨gb, 0, none⟩) := hbo
  have Hc : Hid (∀ k, k < n → ∃ r, Cmp 82 (cut f (k * 20) 20) (cut g (k * 20) 20) r ∧ (cut f (k * 20) 20 = cut g (k * 20) 20 → r = true)) := hc
  clear hf hg hc hbo
  go_enter Tryz.func83, Tryz.ntmps83
  go_wp2
  go_loopw [5] (fun i w' => ∃ k : Nat, k ≤ n ∧ i = .int .i64 k ∧ Below w.heap.size w w') (fun i _ => n - (intOf i).toNat)
  case atStart => exact ⟨0, by omega, rfl, Below.refl _ _⟩
  case round =>
    obtain ⟨k, hk, rfl, hb⟩ := hrel
    have Hb : Hid (Below w.heap.size w wr) := hb
    clear hb
    by_cases hlt : k < n
    · obtain ⟨r, hr, hrt⟩ := Hc.out k hlt
      have Hrt : Hid (cut f (k * 20) 20 = cut g (k * 20) 20 → r = true) := hrt
      have Lf : Hid (wr.rangeAt ga (k * 20) (cut f (k * 20) 20)) := by
        have h := rowIs_range (Hf.out.of_block (Hb.out.block _ (World.block_lt_of_cell? w ⟨ga, 0, none⟩ (Hf.out.cell (by omega))))) (o := k * 20) (m := 20) (by omega)
        exact h
      have Lg : Hid (wr.rangeAt gb (k * 20) (cut g (k * 20) 20)) := by
        obtain ⟨hl, hr⟩ := Hg.out (by omega)
        exact fun j v hv => (World.cell?_of_block (w := w) (a := ⟨gb, k * 20 + j, none⟩) (Hb.out.block _ hl)).trans (hr k hlt j v hv)
      have ei : Hid ((Tryz.prog.info? 82).map (·.size) = some (cut f (k * 20) 20).length) := by unfold Hid; rw [cut_len]; kernel_rfl
      have ej : Hid ((Tryz.prog.info? 82).map (·.size) = some (cut g (k * 20) 20).length) := by unfold Hid; rw [cut_len]; kernel_rfl
      have He : Hid ((∀ j, j < n * 20 → f j = g j) → cut f (k * 20) 20 = cut g (k * 20) 20) := fun h => cut_eq (fun j hj => h _ (by omega))
      unfold Cmp at hr
      clear hrt
      generalize cut f (k * 20) 20 = cs at *
      generalize cut g (k * 20) 20 = ds at *
      have M1 : ∀ w' : World, w'.rangeAt ga (k * 20) cs ∧ w'.rangeAt gb (k * 20) ds → (Instr.loadAt 82 (.pointer (some ⟨ga, k * 20, none⟩))).run Tryz.prog w' = .ok (.agg cs.toArray) w' := fun w' h => run_loadAt_mid w' ga (k * 20) 82 cs _ h.1 Tryz.underlying82 rfl ei.out
      have M2 : ∀ w' : World, w'.rangeAt ga (k * 20) cs ∧ w'.rangeAt gb (k * 20) ds → (Instr.loadAt 82 (.pointer (some ⟨gb, k * 20, none⟩))).run Tryz.prog w' = .ok (.agg ds.toArray) w' := fun w' h => run_loadAt_mid w' gb (k * 20) 82 ds _ h.2 Tryz.underlying82 rfl ej.out
      have l1 : wr.rangeAt ga (k * 20) cs := Lf.out
      have l2 : wr.rangeAt gb (k * 20) ds := Lg.out
      have b1 : (0 : Int) ≤ (k : Int) := by omega
      have b2 : (k : Int) < (n : Int) := by omega
      clear M1 M2
      obtain rfl : bo = some ⟨gb, 0, none⟩ := Hbo.out (by omega)
      · go_wp2_with fail
        refine wp_region_held_drew (S := fun w' => w'.rangeAt ga (k * 20) cs ∧ w'.rangeAt gb (k * 20) ds) (by kernel_rfl) ⟨(World.rangeAt_drew _ _ _ _).2 Lf.out, (World.rangeAt_drew _ _ _ _).2 Lg.out⟩ (fun hS => ?_)
        refine wpAnyH_take (i := 0) (oi := { dst := some 17, op := .move (.tmp 0), type := 72, pos := "book.go:142", after := #[], guard := none }) (v := .slice (some ⟨ga, 0, none⟩) n n) rfl (by kernel_rfl) (by kernel_rfl) (by kernel_rfl) (fun _ _ _ h => h) (Or.inl ⟨by rfl, fun w h => by go_simp⟩) (by assumption) ?_
        try simp only [Act.put, List.setIfInBounds_toArray, List.set_cons_zero, List.set_cons_succ]
        refine wpAnyH_take (i := 1) (oi := { dst := some 18, op := .move (.tmp 5), type := 3, pos := "book.go:142", after := #[], guard := none }) (v := .int .i64 k) rfl (by kernel_rfl) (by kernel_rfl) (by kernel_rfl) (fun _ _ _ h => h) (Or.inl ⟨by rfl, fun w h => by go_simp⟩) (by assumption) ?_
        try simp only [Act.put, List.setIfInBounds_toArray, List.set_cons_zero, List.set_cons_succ]
        refine wpAnyH_take (i := 2) (oi := { dst := some 19, op := .indexAddr 72 (.tmp 17) (.tmp 18), type := 0, pos := "book.go:142", after := #[{ on := 0, ground := .data }, { on := 1, ground := .data }], guard := none }) (v := .pointer (some ⟨ga, k * 20, none⟩)) rfl (by kernel_rfl) (by kernel_rfl) (by kernel_rfl) (fun _ _ _ h => h) (Or.inl ⟨by rfl, fun w h => by go_simp⟩) (by assumption) ?_
        try simp only [Act.put, List.setIfInBounds_toArray, List.set_cons_zero, List.set_cons_succ]
        refine wpAnyH_take (i := 3) (oi := { dst := some 20, op := .load 82 (.tmp 19), type := 82, pos := "book.go:142", after := #[{ on := 2, ground := .data }], guard := none }) (v := .agg cs.toArray) rfl (by kernel_rfl) (by kernel_rfl) (by kernel_rfl) (fun _ _ _ h => h) (yieldsIf_load_mid (by rfl) _ _ rfl _ _ rfl _ _ (fun w h => h.1) Tryz.underlying82 rfl ei.out) (by assumption) ?_
        try simp only [Act.put, List.setIfInBounds_toArray, List.set_cons_zero, List.set_cons_succ]
        refine wpAnyH_take (i := 4) (oi := { dst := some 21, op := .move (.tmp 1), type := 72, pos := "book.go:142", after := #[], guard := none }) (v := .slice (some ⟨gb, 0, none⟩) n cb) rfl (by kernel_rfl) (by kernel_rfl) (by kernel_rfl) (fun _ _ _ h => h) (Or.inl ⟨by rfl, fun w h => by go_simp⟩) (by assumption) ?_
        try simp only [Act.put, List.setIfInBounds_toArray, List.set_cons_zero, List.set_cons_succ]
        refine wpAnyH_take (i := 5) (oi := { dst := some 22, op := .move (.tmp 5), type := 3, pos := "book.go:142", after := #[], guard := none }) (v := .int .i64 k) rfl (by kernel_rfl) (by kernel_rfl) (by kernel_rfl) (fun _ _ _ h => h) (Or.inl ⟨by rfl, fun w h => by go_simp⟩) (by assumption) ?_
        try simp only [Act.put, List.setIfInBounds_toArray, List.set_cons_zero, List.set_cons_succ]
        refine wpAnyH_take (i := 6) (oi := { dst := some 23, op := .indexAddr 72 (.tmp 21) (.tmp 22), type := 0, pos := "book.go:142", after := #[{ on := 4, ground := .data }, { on := 5, ground := .data }], guard := none }) (v := .pointer (some ⟨gb, k * 20, none⟩)) rfl (by kernel_rfl) (by kernel_rfl) (by kernel_rfl) (fun _ _ _ h => h) (Or.inl ⟨by rfl, fun w h => by go_simp⟩) (by assumption) ?_
        try simp only [Act.put, List.setIfInBounds_toArray, List.set_cons_zero, List.set_cons_succ]
        refine wpAnyH_take (i := 7) (oi := { dst := some 24, op := .load 82 (.tmp 23), type := 82, pos := "book.go:142", after := #[{ on := 6, ground := .data }], guard := none }) (v := .agg ds.toArray) rfl (by kernel_rfl) (by kernel_rfl) (by kernel_rfl) (fun _ _ _ h => h) (yieldsIf_load_mid (by rfl) _ _ rfl _ _ rfl _ _ (fun w h => h.2) Tryz.underlying82 rfl ej.out) (by assumption) ?_
        try simp only [Act.put, List.setIfInBounds_toArray, List.set_cons_zero, List.set_cons_succ]
        refine wpAnyH_take (i := 8) (oi := { dst := some 25, op := .binOp .neq 82 (.tmp 20) (.tmp 24) 82, type := 4, pos := "book.go:142", after := #[{ on := 3, ground := .data }, { on := 7, ground := .data }], guard := none }) (v := .bool !r) rfl (by kernel_rfl) (by kernel_rfl) (by kernel_rfl) (fun _ _ _ h => h) (Or.inl ⟨by rfl, fun w h => by go_simp⟩) (by assumption) ?_
        try simp only [Act.put, List.setIfInBounds_toArray, List.set_cons_zero, List.set_cons_succ]
        refine wpAnyH_done (by kernel_rfl) ?_ _
        cases r
        · go_wp2
          go_ret
          exact ⟨false, rfl, fun h => Hrt.out (He.out h), below_drew Hb.out⟩
        · go_wp2
          exact ⟨⟨k + 1, by omega, by go_num, below_drew Hb.out⟩, by simp [intOf]; omega⟩
    · obtain rfl : k = n := by omega
      go_wp2
      go_ret
      exact ⟨true, rfl, fun _ => rfl, Hb.out⟩
theorem sameSlots_any (w : World) (n ga gb : Nat) (hn : n ≤ 32) (f g : Nat → Value) (hf : w.rowIs ga 82 (n * 20) f) (hg : w.rowIs gb 82 (n * 20) g)
    (hc : ∀ k, k < n → ∃ r, Cmp 82 (cut f (k * 20) 20) (cut g (k * 20) 20) r ∧ (cut f (k * 20) 20 = cut g (k * 20) 20 → r = true)) :
    Calls Tryz.prog 83 #[.slice (some ⟨ga, 0, none⟩) n n, .slice (some ⟨gb, 0, none⟩) n n] w fun e w' => ∃ r, e = .returned (.bool r) ∧ ((∀ j, j < n * 20 → f j = g j) → r = true) ∧ Below w.heap.size w w' :=
  sameSlots_gen w n ga gb hn f g hf (some ⟨gb, 0, none⟩) n (fun _ => rfl) (fun h => ⟨World.block_lt_of_cell? w ⟨gb, 0, none⟩ (hg.cell (by omega)), fun k hk => rowIs_range hg (o := k * 20) (m := 20) (by omega)⟩) hc
end Go.Proofs.YtcgabodkegcpgaaGreatDoor
