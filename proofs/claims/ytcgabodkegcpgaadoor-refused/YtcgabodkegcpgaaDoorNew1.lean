/- What the kernel's makers do: within, emptySlot, filled. -/
import Derived.Test.YtcgabodkegcpgaaDoorCall
import Derived.Handy
import Derived.Test.YtcgabodkegcpgaaDoorRow
namespace Go.Proofs.YtcgabodkegcpgaaDoor
open Go.RowKit
set_option linter.unusedVariables false

def withinB (n a b : Int) : Bool := decide (a ≤ n) && decide (n ≤ b)
theorem within_any (n a b : Int) (w : World) :
    Calls Tryd.prog 24 #[.int .i64 n, .int .i64 a, .int .i64 b] w fun e w' => e = .returned (.bool (withinB n a b)) ∧ w' = w := by
  by_cases h1 : a ≤ n
  · by_cases h2 : n ≤ b
    · have E : Hid (withinB n a b = true) := by unfold Hid withinB; simp [h1, h2]
      go_enter Tryd.func24, Tryd.ntmps24
      go_wp2
      go_ret
      rw [E.out]
      exact ⟨rfl, rfl⟩
    · have E : Hid (withinB n a b = false) := by unfold Hid withinB; simp; omega
      go_enter Tryd.func24, Tryd.ntmps24
      go_wp2
      go_ret
      rw [E.out]
      exact ⟨rfl, rfl⟩
  · have E : Hid (withinB n a b = false) := by unfold Hid withinB; simp; omega
    go_enter Tryd.func24, Tryd.ntmps24
    go_wp2
    go_ret
    rw [E.out]
    exact ⟨rfl, rfl⟩

/-- A process that is None, cell by cell, while a of its pages and b of its files have been emptied. -/
def noneCell (a b j : Nat) : Value :=
  if j = 1 ∨ j = 2 then .int .i64 (-1) else if 3 ≤ j ∧ j ≤ 10 then (if j % 2 = 0 then .bool false else if j < 3 + a * 2 then .int .i64 (-1) else .int .i64 0)
  else if 11 ≤ j ∧ j ≤ 18 then (if j % 2 = 0 then .bool false else if j < 11 + b * 2 then .int .i64 (-1) else .int .i64 0) else .int .i64 0
theorem noneCell_page (a j : Nat) (ha : a < 4) : (if j = 3 + a * 2 then .int .i64 (-1) else noneCell a 0 j) = noneCell (a + 1) 0 j := by
  unfold noneCell
  by_cases e : j = 3 + a * 2
  · rw [if_pos e, if_neg (by omega), if_pos (by omega), if_neg (by omega), if_pos (by omega)]
  · rw [if_neg e]
    by_cases h1 : j = 1 ∨ j = 2
    · rw [if_pos h1, if_pos h1]
    rw [if_neg h1, if_neg h1]
    by_cases h2 : 3 ≤ j ∧ j ≤ 10
    · rw [if_pos h2, if_pos h2]
      by_cases h3 : j % 2 = 0
      · rw [if_pos h3, if_pos h3]
      rw [if_neg h3, if_neg h3]
      by_cases h4 : j < 3 + a * 2
      · rw [if_pos h4, if_pos (by omega)]
      · rw [if_neg h4, if_neg (by omega)]
    · rw [if_neg h2, if_neg h2]
theorem noneCell_file (b j : Nat) (hb : b < 4) : (if j = 11 + b * 2 then .int .i64 (-1) else noneCell 4 b j) = noneCell 4 (b + 1) j := by
  unfold noneCell
  by_cases e : j = 11 + b * 2
  · rw [if_pos e, if_neg (by omega), if_neg (by omega), if_pos (by omega), if_neg (by omega), if_pos (by omega)]
  · rw [if_neg e]
    by_cases h1 : j = 1 ∨ j = 2
    · rw [if_pos h1, if_pos h1]
    rw [if_neg h1, if_neg h1]
    by_cases h2 : 3 ≤ j ∧ j ≤ 10
    · rw [if_pos h2, if_pos h2]
    rw [if_neg h2, if_neg h2]
    by_cases h5 : 11 ≤ j ∧ j ≤ 18
    · rw [if_pos h5, if_pos h5]
      by_cases h3 : j % 2 = 0
      · rw [if_pos h3, if_pos h3]
      rw [if_neg h3, if_neg h3]
      by_cases h4 : j < 11 + b * 2
      · rw [if_pos h4, if_pos (by omega)]
      · rw [if_neg h4, if_neg (by omega)]
    · rw [if_neg h5, if_neg h5]

def noneCells : List Value := (List.range 20).map (noneCell 4 4)
theorem noneCells_len : noneCells.length = 20 := rfl
theorem noneCells_one : noneCells.toArray.all (·.oneCell') = true := by kernel_rfl

set_option maxHeartbeats 1000000 in
theorem emptySlot_any (w : World) :
    Calls Tryd.prog 27 #[] w fun e w' => e = .returned (.agg noneCells.toArray) ∧ Below w.heap.size w w' := by
  go_enter Tryd.func27, Tryd.ntmps27
  go_wp2_with (refine wpList_store_mid rfl 55 _ _ rfl (w.heap.size + 1) 0 _ rfl rfl ?_ (by kernel_rfl) (by kernel_rfl) ?_)
  · exact rowIs_there (rowIs_new2 w _ _ _) (by simp)
  go_loopw [5] (fun i w' => ∃ k : Nat, k ≤ 4 ∧ i = .int .i64 k ∧ Below w.heap.size w w' ∧ w'.heap.size = w.heap.size + 2 ∧ (∃ f, w'.rowIs w.heap.size 55 20 f) ∧ w'.rowIs (w.heap.size + 1) 55 20 (noneCell k 0)) (fun i _ => 4 - (intOf i).toNat)
  case atStart =>
    refine ⟨0, by omega, rfl, ?_, ?_, ?_, ?_⟩
    · exact below_setCells (by omega) _ _ (((Below.refl _ _).alloc (Nat.le_refl _) _).alloc (by simp) _)
    · rw [size_setCells]; simp
    · refine ⟨_, World.rowIs.of_block (World.rowIs.alloc (rowIs_new w _ _) _) (heap_setCells (by omega) _ _ _)⟩
    · refine (rowIs_setCells _ 0 (rowIs_new2 w _ _ _)).congr fun j hj => ?_
      have hj' : j < 20 := hj
      obtain rfl | rfl | rfl | rfl | rfl | rfl | rfl | rfl | rfl | rfl | rfl | rfl | rfl | rfl | rfl | rfl | rfl | rfl | rfl | rfl : j = 0 ∨ j = 1 ∨ j = 2 ∨ j = 3 ∨ j = 4 ∨ j = 5 ∨ j = 6 ∨ j = 7 ∨ j = 8 ∨ j = 9 ∨ j = 10 ∨ j = 11 ∨ j = 12 ∨ j = 13 ∨ j = 14 ∨ j = 15 ∨ j = 16 ∨ j = 17 ∨ j = 18 ∨ j = 19 := by omega
      all_goals rfl
  case round =>
    obtain ⟨k, hk, rfl, hb, hz, ⟨f0, hf0⟩, hr⟩ := hrel
    by_cases hlt : k < 4
    · have c1 := hr.cell (i := 3 + k * 2) (by omega)
      have c2 := hr.frozen
      have Hb : Hid (Below w.heap.size w wr) := hb
      have Hf : Hid (wr.rowIs w.heap.size 55 20 f0) := hf0
      have Hr : Hid (wr.rowIs (w.heap.size + 1) 55 20 (noneCell k 0)) := hr
      have Hz : Hid (wr.heap.size = w.heap.size + 2) := hz
      clear hb hf0 hr hz
      go_wp2
      refine ⟨⟨k + 1, by omega, by go_num, Hb.out.setCell (by simp) _, by rw [size_setCell]; exact Hz.out, ⟨f0, Hf.out.setOther (by simp) _⟩, (Hr.out.set _ _).congr fun j hj => noneCell_page k j hlt⟩, by simp [intOf]; omega⟩
    · obtain rfl : k = 4 := by omega
      have Hb : Hid (Below w.heap.size w wr) := hb
      have Hf : Hid (wr.rowIs w.heap.size 55 20 f0) := hf0
      have Hr : Hid (wr.rowIs (w.heap.size + 1) 55 20 (noneCell 4 0)) := hr
      have Hz : Hid (wr.heap.size = w.heap.size + 2) := hz
      clear hb hf0 hr hz
      go_wp2
      go_loopw [13] (fun i w' => ∃ k : Nat, k ≤ 4 ∧ i = .int .i64 k ∧ Below w.heap.size w w' ∧ w'.heap.size = w.heap.size + 2 ∧ (∃ f, w'.rowIs w.heap.size 55 20 f) ∧ w'.rowIs (w.heap.size + 1) 55 20 (noneCell 4 k)) (fun i _ => 4 - (intOf i).toNat)
      case atStart => exact ⟨0, by omega, rfl, Hb.out, Hz.out, ⟨_, Hf.out⟩, Hr.out⟩
      case round =>
        clear Hb Hf Hr Hz
        obtain ⟨k, hk, rfl, hb, hz, ⟨f0, hf0⟩, hr⟩ := hrel
        by_cases hlt : k < 4
        · have c1 := hr.cell (i := 11 + k * 2) (by omega)
          have c2 := hr.frozen
          have Hb : Hid (Below w.heap.size w wr) := hb
          have Hf : Hid (wr.rowIs w.heap.size 55 20 f0) := hf0
          have Hr : Hid (wr.rowIs (w.heap.size + 1) 55 20 (noneCell 4 k)) := hr
          have Hz : Hid (wr.heap.size = w.heap.size + 2) := hz
          clear hb hf0 hr hz
          go_wp2
          refine ⟨⟨k + 1, by omega, by go_num, Hb.out.setCell (by simp) _, by rw [size_setCell]; exact Hz.out, ⟨f0, Hf.out.setOther (by simp) _⟩, (Hr.out.set _ _).congr fun j hj => noneCell_file k j hlt⟩, by simp [intOf]; omega⟩
        · obtain rfl : k = 4 := by omega
          have Hb : Hid (Below w.heap.size w wr) := hb
          have Hf : Hid (wr.rowIs w.heap.size 55 20 f0) := hf0
          have Hr : Hid (wr.rowIs (w.heap.size + 1) 55 20 (noneCell 4 4)) := hr
          clear hb hf0 hr hz
          obtain ⟨cs, hcs⟩ : ∃ cs, cs = (List.range 20).map (noneCell 4 4) := ⟨_, rfl⟩
          have Hc : Hid (cs = (List.range 20).map (noneCell 4 4)) := hcs
          have hlen : cs.length = 20 := by rw [hcs]; rfl
          have HL : Hid (wr.rangeAt (w.heap.size + 1) 0 cs) := by
            have := rowIs_range Hr.out (o := 0) (m := 20) (by omega)
            simp only [Nat.zero_add] at this
            unfold Hid; rw [hcs]; exact this
          have HT : Hid (wr.there w.heap.size 0 cs.toArray.size) := rowIs_there Hf.out (by simp [hlen])
          have Hi : Hid ((Tryd.prog.info? 55).map (·.size) = some cs.length) := by unfold Hid; rw [hlen]; kernel_rfl
          have Hi2 : Hid ((Tryd.prog.info? 55).map (·.size) = some cs.toArray.size) := by unfold Hid; rw [List.size_toArray, hlen]; kernel_rfl
          have H1 : Hid (cs.toArray.all (·.oneCell') = true) := by unfold Hid; rw [hcs]; kernel_rfl
          have HL2 : Hid ((wr.setCells w.heap.size 0 cs).rangeAt w.heap.size 0 cs) := World.rangeAt_setCells_same wr w.heap.size 0 cs (by rw [hlen]; exact rowIs_there Hf.out (by omega))
          clear hcs hlen
          go_wp2_with (first | (refine wpList_load_mid rfl 55 _ rfl (w.heap.size + 1) 0 rfl cs _ HL.out Tryd.underlying55 rfl Hi.out ?_) | (refine wpList_store_mid rfl 55 _ _ rfl w.heap.size 0 cs.toArray rfl rfl HT.out Hi2.out H1.out ?_))
          refine bodyPost_ret (v := .agg cs.toArray) (results_cell_range Tryd.results27 _ _ w.heap.size cs _ rfl HL2.out Tryd.underlying55 rfl Hi.out) rfl ⟨by rw [Hc.out]; rfl, below_setCells (Nat.le_refl _) _ _ Hb.out⟩
end Go.Proofs.YtcgabodkegcpgaaDoor
