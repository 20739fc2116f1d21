/- What the kernel's filled does: a new list, every element the same (frames, processes, pipes). -/
import Derived.Test.YtcgabodkegcpgaaDoorNew1
namespace Go.Proofs.YtcgabodkegcpgaaDoor
open Go.RowKit
set_option linter.unusedVariables false

theorem range_of_block {w : World} {b t : Nat} {vs : List Value} (h : w.heap[b]? = some (.cells vs.toArray t (0, 0))) : w.rangeAt b 0 vs := fun j v hv => by
  rw [cell_of_row w b (0 + j) vs.toArray t (0, 0) h]; simpa using hv

theorem infoFrame : (Tryd.prog.info? 75).map (fun i => (i.zero, i.size, i.bytes)) = some (some (.agg #[.int .i64 0, .int .i64 0, .int .i64 0, .int .i64 0, .int .i64 0, .int .i64 0]), 6, 48) := by kernel_rfl
theorem makeFrame (n : Nat) (hn : n ≤ 32) (w : World) : ∃ C : Array Value, C.size = n * 6 ∧ (Instr.makeSlice 41 (.int .i64 n) (.int .i64 n)).run Tryd.prog w = .ok (.slice (some ⟨w.heap.size, 0, none⟩) n n) (w.alloc (.cells C 75)) := by
  have hinfo := infoFrame
  cases hq : Tryd.prog.info? 75 with
  | none => rw [hq] at hinfo; cases hinfo
  | some i =>
    rw [hq] at hinfo
    simp only [Option.map_some, Option.some.injEq, Prod.mk.injEq] at hinfo
    obtain ⟨hz, hs, hb⟩ := hinfo
    have := run_make (P := Tryd.prog) w 41 75 i _ Tryd.underlying41 hq hz .i64 .i64 n n (by omega) (by omega) (by rw [hb]; omega) (by omega)
    rw [hs] at this
    exact ⟨_, size_madeCells _ _, this⟩

set_option maxHeartbeats 1000000 in
theorem filledFrame_any (n : Nat) (hn : n ≤ 32) (vs : List Value) (hlen : vs.length = 6) (h1 : vs.toArray.all (·.oneCell') = true) (w : World) :
    Calls Tryd.prog 25 #[.int .i64 n, .agg vs.toArray] w fun e w' => e = .returned (.slice (some ⟨w.heap.size + 1, 0, none⟩) n n) ∧ Below w.heap.size w w' ∧ w'.heap.size = w.heap.size + 2 ∧ w'.rowIs (w.heap.size + 1) 75 (n * 6) (fun j => vs.getD (j % 6) (.bool false)) := by
  have Hl : Hid (vs.length = 6) := hlen
  have Hi : Hid ((Tryd.prog.info? 75).map (·.size) = some vs.length) := by unfold Hid; rw [hlen]; kernel_rfl
  have Hi2 : Hid ((Tryd.prog.info? 75).map (·.size) = some vs.toArray.size) := by unfold Hid; rw [List.size_toArray, hlen]; kernel_rfl
  have H1 : Hid (vs.toArray.all (·.oneCell') = true) := h1
  obtain ⟨C, hC, hmk⟩ := makeFrame n hn (w.alloc (.cells vs.toArray 75))
  have hsz : (w.alloc (.cells vs.toArray 75)).heap.size = w.heap.size + 1 := by simp
  rw [hsz] at hmk
  have HC : Hid (C.size = n * 6) := hC
  clear hlen h1 hC hsz
  go_enter Tryd.func25, Tryd.ntmps25
  go_wp2
  go_loopw [11] (fun i w' => ∃ k : Nat, k ≤ n ∧ i = .int .i64 k ∧ Below w.heap.size w w' ∧ w'.heap.size = w.heap.size + 2 ∧ w'.heap[w.heap.size]? = some (.cells vs.toArray 75 (0, 0)) ∧ ∃ f, w'.rowIs (w.heap.size + 1) 75 (n * 6) f ∧ ∀ j, j < k * 6 → f j = vs.getD (j % 6) (.bool false)) (fun i _ => n - (intOf i).toNat)
  case atStart =>
    refine ⟨0, by omega, rfl, ((Below.refl _ _).alloc (Nat.le_refl _) _).alloc (by simp) _, by simp, ?_, (fun j => C.getD j (.bool false)), ?_, fun j hj => by omega⟩
    · rw [Below.heap_alloc _ _ _ (by simp)]; exact heap_alloc_new w _
    · have := rowIs_new2 w (.cells vs.toArray 75) C 75
      rw [HC.out] at this
      exact this
  case round =>
    obtain ⟨k, hk, rfl, hb, hz, hx, f, hr, hf⟩ := hrel
    have Hb : Hid (Below w.heap.size w wr) := hb
    have Hz : Hid (wr.heap.size = w.heap.size + 2) := hz
    have Hx : Hid (wr.heap[w.heap.size]? = some (.cells vs.toArray 75 (0, 0))) := hx
    have Hr : Hid (wr.rowIs (w.heap.size + 1) 75 (n * 6) f) := hr
    have Hf : Hid (∀ j, j < k * 6 → f j = vs.getD (j % 6) (.bool false)) := hf
    clear hb hz hx hr hf
    by_cases hlt : k < n
    · have HL : Hid (wr.rangeAt w.heap.size 0 vs) := range_of_block Hx.out
      have HT : Hid (wr.there (w.heap.size + 1) (k * 6) vs.toArray.size) := rowIs_there Hr.out (by rw [List.size_toArray, Hl.out]; omega)
      go_wp2_with (first | (refine wpList_load_mid rfl 75 _ rfl w.heap.size 0 rfl vs _ HL.out Tryd.underlying75 rfl Hi.out ?_) | (refine wpList_store_mid rfl 75 _ _ rfl (w.heap.size + 1) (k * 6) vs.toArray rfl rfl HT.out Hi2.out H1.out ?_))
      refine ⟨⟨k + 1, by omega, by go_num, below_setCells (by omega) _ _ Hb.out, by rw [size_setCells]; exact Hz.out, by rw [heap_setCells (by omega)]; exact Hx.out, _, rowIs_setCells _ _ Hr.out, fun j hj => ?_⟩, by simp [intOf]; omega⟩
      have hl := Hl.out
      by_cases e : k * 6 ≤ j ∧ j < k * 6 + vs.length
      · rw [if_pos (by simpa using e), show j - k * 6 = j % 6 by omega]
      · rw [if_neg (by simpa using e)]; exact Hf.out j (by omega)
    · obtain rfl : k = n := by omega
      go_wp2
      go_ret
      exact ⟨rfl, Hb.out, Hz.out, Hr.out.congr fun j hj => Hf.out j hj⟩

theorem infoSlot : (Tryd.prog.info? 55).map (fun i => (i.zero, i.size, i.bytes)) = some (some (.agg #[.int .i64 0, .int .i64 0, .int .i64 0, .int .i64 0, .bool false, .int .i64 0, .bool false, .int .i64 0, .bool false, .int .i64 0, .bool false, .int .i64 0, .bool false, .int .i64 0, .bool false, .int .i64 0, .bool false, .int .i64 0, .bool false, .int .i64 0]), 20, 160) := by kernel_rfl
theorem makeSlot (n : Nat) (hn : n ≤ 32) (w : World) : ∃ C : Array Value, C.size = n * 20 ∧ (Instr.makeSlice 42 (.int .i64 n) (.int .i64 n)).run Tryd.prog w = .ok (.slice (some ⟨w.heap.size, 0, none⟩) n n) (w.alloc (.cells C 55)) := by
  have hinfo := infoSlot
  cases hq : Tryd.prog.info? 55 with
  | none => rw [hq] at hinfo; cases hinfo
  | some i =>
    rw [hq] at hinfo
    simp only [Option.map_some, Option.some.injEq, Prod.mk.injEq] at hinfo
    obtain ⟨hz, hs, hb⟩ := hinfo
    have := run_make (P := Tryd.prog) w 42 55 i _ Tryd.underlying42 hq hz .i64 .i64 n n (by omega) (by omega) (by rw [hb]; omega) (by omega)
    rw [hs] at this
    exact ⟨_, size_madeCells _ _, this⟩

set_option maxHeartbeats 1000000 in
theorem filledSlot_any (n : Nat) (hn : n ≤ 32) (vs : List Value) (hlen : vs.length = 20) (h1 : vs.toArray.all (·.oneCell') = true) (w : World) :
    Calls Tryd.prog 26 #[.int .i64 n, .agg vs.toArray] w fun e w' => e = .returned (.slice (some ⟨w.heap.size + 1, 0, none⟩) n n) ∧ Below w.heap.size w w' ∧ w'.heap.size = w.heap.size + 2 ∧ w'.rowIs (w.heap.size + 1) 55 (n * 20) (fun j => vs.getD (j % 20) (.bool false)) := by
  have Hl : Hid (vs.length = 20) := hlen
  have Hi : Hid ((Tryd.prog.info? 55).map (·.size) = some vs.length) := by unfold Hid; rw [hlen]; kernel_rfl
  have Hi2 : Hid ((Tryd.prog.info? 55).map (·.size) = some vs.toArray.size) := by unfold Hid; rw [List.size_toArray, hlen]; kernel_rfl
  have H1 : Hid (vs.toArray.all (·.oneCell') = true) := h1
  obtain ⟨C, hC, hmk⟩ := makeSlot n hn (w.alloc (.cells vs.toArray 55))
  have hsz : (w.alloc (.cells vs.toArray 55)).heap.size = w.heap.size + 1 := by simp
  rw [hsz] at hmk
  have HC : Hid (C.size = n * 20) := hC
  clear hlen h1 hC hsz
  go_enter Tryd.func26, Tryd.ntmps26
  go_wp2
  go_loopw [11] (fun i w' => ∃ k : Nat, k ≤ n ∧ i = .int .i64 k ∧ Below w.heap.size w w' ∧ w'.heap.size = w.heap.size + 2 ∧ w'.heap[w.heap.size]? = some (.cells vs.toArray 55 (0, 0)) ∧ ∃ f, w'.rowIs (w.heap.size + 1) 55 (n * 20) f ∧ ∀ j, j < k * 20 → f j = vs.getD (j % 20) (.bool false)) (fun i _ => n - (intOf i).toNat)
  case atStart =>
    refine ⟨0, by omega, rfl, ((Below.refl _ _).alloc (Nat.le_refl _) _).alloc (by simp) _, by simp, ?_, (fun j => C.getD j (.bool false)), ?_, fun j hj => by omega⟩
    · rw [Below.heap_alloc _ _ _ (by simp)]; exact heap_alloc_new w _
    · have := rowIs_new2 w (.cells vs.toArray 55) C 55
      rw [HC.out] at this
      exact this
  case round =>
    obtain ⟨k, hk, rfl, hb, hz, hx, f, hr, hf⟩ := hrel
    have Hb : Hid (Below w.heap.size w wr) := hb
    have Hz : Hid (wr.heap.size = w.heap.size + 2) := hz
    have Hx : Hid (wr.heap[w.heap.size]? = some (.cells vs.toArray 55 (0, 0))) := hx
    have Hr : Hid (wr.rowIs (w.heap.size + 1) 55 (n * 20) f) := hr
    have Hf : Hid (∀ j, j < k * 20 → f j = vs.getD (j % 20) (.bool false)) := hf
    clear hb hz hx hr hf
    by_cases hlt : k < n
    · have HL : Hid (wr.rangeAt w.heap.size 0 vs) := range_of_block Hx.out
      have HT : Hid (wr.there (w.heap.size + 1) (k * 20) vs.toArray.size) := rowIs_there Hr.out (by rw [List.size_toArray, Hl.out]; omega)
      go_wp2_with (first | (refine wpList_load_mid rfl 55 _ rfl w.heap.size 0 rfl vs _ HL.out Tryd.underlying55 rfl Hi.out ?_) | (refine wpList_store_mid rfl 55 _ _ rfl (w.heap.size + 1) (k * 20) vs.toArray rfl rfl HT.out Hi2.out H1.out ?_))
      refine ⟨⟨k + 1, by omega, by go_num, below_setCells (by omega) _ _ Hb.out, by rw [size_setCells]; exact Hz.out, by rw [heap_setCells (by omega)]; exact Hx.out, _, rowIs_setCells _ _ Hr.out, fun j hj => ?_⟩, by simp [intOf]; omega⟩
      have hl := Hl.out
      by_cases e : k * 20 ≤ j ∧ j < k * 20 + vs.length
      · rw [if_pos (by simpa using e), show j - k * 20 = j % 20 by omega]
      · rw [if_neg (by simpa using e)]; exact Hf.out j (by omega)
    · obtain rfl : k = n := by omega
      go_wp2
      go_ret
      exact ⟨rfl, Hb.out, Hz.out, Hr.out.congr fun j hj => Hf.out j hj⟩

theorem infoDuct : (Tryd.prog.info? 84).map (fun i => (i.zero, i.size, i.bytes)) = some (some (.agg #[.int .i64 0, .int .i64 0, .int .i64 0, .int .i64 0, .int .i64 0]), 5, 40) := by kernel_rfl
theorem makeDuct (n : Nat) (hn : n ≤ 32) (w : World) : ∃ C : Array Value, C.size = n * 5 ∧ (Instr.makeSlice 43 (.int .i64 n) (.int .i64 n)).run Tryd.prog w = .ok (.slice (some ⟨w.heap.size, 0, none⟩) n n) (w.alloc (.cells C 84)) := by
  have hinfo := infoDuct
  cases hq : Tryd.prog.info? 84 with
  | none => rw [hq] at hinfo; cases hinfo
  | some i =>
    rw [hq] at hinfo
    simp only [Option.map_some, Option.some.injEq, Prod.mk.injEq] at hinfo
    obtain ⟨hz, hs, hb⟩ := hinfo
    have := run_make (P := Tryd.prog) w 43 84 i _ Tryd.underlying43 hq hz .i64 .i64 n n (by omega) (by omega) (by rw [hb]; omega) (by omega)
    rw [hs] at this
    exact ⟨_, size_madeCells _ _, this⟩

set_option maxHeartbeats 1000000 in
theorem filledDuct_any (n : Nat) (hn : n ≤ 32) (vs : List Value) (hlen : vs.length = 5) (h1 : vs.toArray.all (·.oneCell') = true) (w : World) :
    Calls Tryd.prog 28 #[.int .i64 n, .agg vs.toArray] w fun e w' => e = .returned (.slice (some ⟨w.heap.size + 1, 0, none⟩) n n) ∧ Below w.heap.size w w' ∧ w'.heap.size = w.heap.size + 2 ∧ w'.rowIs (w.heap.size + 1) 84 (n * 5) (fun j => vs.getD (j % 5) (.bool false)) := by
  have Hl : Hid (vs.length = 5) := hlen
  have Hi : Hid ((Tryd.prog.info? 84).map (·.size) = some vs.length) := by unfold Hid; rw [hlen]; kernel_rfl
  have Hi2 : Hid ((Tryd.prog.info? 84).map (·.size) = some vs.toArray.size) := by unfold Hid; rw [List.size_toArray, hlen]; kernel_rfl
  have H1 : Hid (vs.toArray.all (·.oneCell') = true) := h1
  obtain ⟨C, hC, hmk⟩ := makeDuct n hn (w.alloc (.cells vs.toArray 84))
  have hsz : (w.alloc (.cells vs.toArray 84)).heap.size = w.heap.size + 1 := by simp
  rw [hsz] at hmk
  have HC : Hid (C.size = n * 5) := hC
  clear hlen h1 hC hsz
  go_enter Tryd.func28, Tryd.ntmps28
  go_wp2
  go_loopw [11] (fun i w' => ∃ k : Nat, k ≤ n ∧ i = .int .i64 k ∧ Below w.heap.size w w' ∧ w'.heap.size = w.heap.size + 2 ∧ w'.heap[w.heap.size]? = some (.cells vs.toArray 84 (0, 0)) ∧ ∃ f, w'.rowIs (w.heap.size + 1) 84 (n * 5) f ∧ ∀ j, j < k * 5 → f j = vs.getD (j % 5) (.bool false)) (fun i _ => n - (intOf i).toNat)
  case atStart =>
    refine ⟨0, by omega, rfl, ((Below.refl _ _).alloc (Nat.le_refl _) _).alloc (by simp) _, by simp, ?_, (fun j => C.getD j (.bool false)), ?_, fun j hj => by omega⟩
    · rw [Below.heap_alloc _ _ _ (by simp)]; exact heap_alloc_new w _
    · have := rowIs_new2 w (.cells vs.toArray 84) C 84
      rw [HC.out] at this
      exact this
  case round =>
    obtain ⟨k, hk, rfl, hb, hz, hx, f, hr, hf⟩ := hrel
    have Hb : Hid (Below w.heap.size w wr) := hb
    have Hz : Hid (wr.heap.size = w.heap.size + 2) := hz
    have Hx : Hid (wr.heap[w.heap.size]? = some (.cells vs.toArray 84 (0, 0))) := hx
    have Hr : Hid (wr.rowIs (w.heap.size + 1) 84 (n * 5) f) := hr
    have Hf : Hid (∀ j, j < k * 5 → f j = vs.getD (j % 5) (.bool false)) := hf
    clear hb hz hx hr hf
    by_cases hlt : k < n
    · have HL : Hid (wr.rangeAt w.heap.size 0 vs) := range_of_block Hx.out
      have HT : Hid (wr.there (w.heap.size + 1) (k * 5) vs.toArray.size) := rowIs_there Hr.out (by rw [List.size_toArray, Hl.out]; omega)
      go_wp2_with (first | (refine wpList_load_mid rfl 84 _ rfl w.heap.size 0 rfl vs _ HL.out Tryd.underlying84 rfl Hi.out ?_) | (refine wpList_store_mid rfl 84 _ _ rfl (w.heap.size + 1) (k * 5) vs.toArray rfl rfl HT.out Hi2.out H1.out ?_))
      refine ⟨⟨k + 1, by omega, by go_num, below_setCells (by omega) _ _ Hb.out, by rw [size_setCells]; exact Hz.out, by rw [heap_setCells (by omega)]; exact Hx.out, _, rowIs_setCells _ _ Hr.out, fun j hj => ?_⟩, by simp [intOf]; omega⟩
      have hl := Hl.out
      by_cases e : k * 5 ≤ j ∧ j < k * 5 + vs.length
      · rw [if_pos (by simpa using e), show j - k * 5 = j % 5 by omega]
      · rw [if_neg (by simpa using e)]; exact Hf.out j (by omega)
    · obtain rfl : k = n := by omega
      go_wp2
      go_ret
      exact ⟨rfl, Hb.out, Hz.out, Hr.out.congr fun j hj => Hf.out j hj⟩
end Go.Proofs.YtcgabodkegcpgaaDoor
