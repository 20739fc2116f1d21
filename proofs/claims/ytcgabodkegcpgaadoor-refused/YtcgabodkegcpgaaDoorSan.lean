/- Comparing Frames, Entries, Files and Slots. -/
import Derived.Test.YtcgabodkegcpgaaDoorSam
namespace Go.Proofs.YtcgabodkegcpgaaDoor
open Go.RowKit
set_option linter.unusedVariables false
theorem same_words {d : Nat} {xs ys : Array Value} (hx : ∀ j, j < 4 → IntAt xs j) (hy : ∀ j, j < 4 → IntAt ys j) : Same Tryd.prog (d + 2) 73 (.agg xs) (.agg ys) :=
  same_array Tryd.underlying73 Tryd.sizeOf3 (fun i hi => part_int (hx _ (by omega)) (hy _ (by omega)))
theorem same_frame {d : Nat} {xs ys : Array Value} (hx : ∀ j, j < 6 → IntAt xs j) (hy : ∀ j, j < 6 → IntAt ys j) : Same Tryd.prog (d + 3) 75 (.agg xs) (.agg ys) := by
  refine same_struct (by kernel_rfl) (by kernel_rfl) ?_
  have e : (Tryd.prog.fieldsOf 75).toList.map (fun f => (f.name != "_", f.type, f.offset)) = [(true, 3, 0), (true, 3, 1), (true, 73, 2)] := by kernel_rfl
  intro f hf
  have hm := List.mem_map_of_mem (f := fun f : Field => (f.name != "_", f.type, f.offset)) hf
  rw [e] at hm
  generalize hn : (f.name != "_") = n at hm
  generalize f.type = ft at *
  generalize f.offset = fo at *
  simp at hm
  rcases hm with ⟨rfl, rfl, rfl⟩ | ⟨rfl, rfl, rfl⟩ | ⟨rfl, rfl, rfl⟩
  · exact ⟨by simpa using hn, part_int (hx _ (by omega)) (hy _ (by omega))⟩
  · exact ⟨by simpa using hn, part_int (hx _ (by omega)) (hy _ (by omega))⟩
  · exact ⟨by simpa using hn, _, _, pt_agg Tryd.isAgg73 Tryd.sizeOf73, pt_agg Tryd.isAgg73 Tryd.sizeOf73, same_words (fun j hj => (hx (2 + j) (by omega)).cut (by omega)) (fun j hj => (hy (2 + j) (by omega)).cut (by omega))⟩
/-- Four pairs of a number and a truth. -/
def Pairs (n : Nat) (xs : Array Value) (o : Nat) : Prop := ∀ i, i < n → IntAt xs (o + i * 2) ∧ BoolAt xs (o + i * 2 + 1)
theorem Pairs.cut {n : Nat} {xs : Array Value} {o b : Nat} (h : Pairs n xs o) (hb : o + n * 2 ≤ b) : Pairs n (xs.extract o b) 0 := fun i hi =>
  ⟨(show IntAt xs (o + (0 + i * 2)) by rw [Nat.zero_add]; exact (h i hi).1).cut (by omega), (show BoolAt xs (o + (0 + i * 2 + 1)) by rw [Nat.zero_add, ← Nat.add_assoc]; exact (h i hi).2).cut (by omega)⟩
theorem Pairs.one {n : Nat} {xs : Array Value} {o i : Nat} (h : Pairs n xs o) (hi : i < n) : Pairs 1 xs (o + i * 2) := fun j hj => by
  obtain rfl : j = 0 := by omega
  simpa using h i hi
theorem same_entry {d : Nat} {xs ys : Array Value} (hx : Pairs 1 xs 0) (hy : Pairs 1 ys 0) : Same Tryd.prog (d + 2) 49 (.agg xs) (.agg ys) := by
  refine same_struct (by kernel_rfl) (by kernel_rfl) ?_
  have e : (Tryd.prog.fieldsOf 49).toList.map (fun f => (f.name != "_", f.type, f.offset)) = [(true, 3, 0), (true, 4, 1)] := by kernel_rfl
  intro f hf
  have hm := List.mem_map_of_mem (f := fun f : Field => (f.name != "_", f.type, f.offset)) hf
  rw [e] at hm
  generalize hn : (f.name != "_") = n at hm
  generalize f.type = ft at *
  generalize f.offset = fo at *
  simp at hm
  rcases hm with ⟨rfl, rfl, rfl⟩ | ⟨rfl, rfl, rfl⟩
  · exact ⟨by simpa using hn, part_int (hx 0 (by omega)).1 (hy 0 (by omega)).1⟩
  · exact ⟨by simpa using hn, part_bool (hx 0 (by omega)).2 (hy 0 (by omega)).2⟩
theorem same_file {d : Nat} {xs ys : Array Value} (hx : Pairs 1 xs 0) (hy : Pairs 1 ys 0) : Same Tryd.prog (d + 2) 52 (.agg xs) (.agg ys) := by
  refine same_struct (by kernel_rfl) (by kernel_rfl) ?_
  have e : (Tryd.prog.fieldsOf 52).toList.map (fun f => (f.name != "_", f.type, f.offset)) = [(true, 3, 0), (true, 4, 1)] := by kernel_rfl
  intro f hf
  have hm := List.mem_map_of_mem (f := fun f : Field => (f.name != "_", f.type, f.offset)) hf
  rw [e] at hm
  generalize hn : (f.name != "_") = n at hm
  generalize f.type = ft at *
  generalize f.offset = fo at *
  simp at hm
  rcases hm with ⟨rfl, rfl, rfl⟩ | ⟨rfl, rfl, rfl⟩
  · exact ⟨by simpa using hn, part_int (hx 0 (by omega)).1 (hy 0 (by omega)).1⟩
  · exact ⟨by simpa using hn, part_bool (hx 0 (by omega)).2 (hy 0 (by omega)).2⟩
theorem same_pages {d : Nat} {xs ys : Array Value} (hx : Pairs 4 xs 0) (hy : Pairs 4 ys 0) : Same Tryd.prog (d + 3) 50 (.agg xs) (.agg ys) :=
  same_array Tryd.underlying50 Tryd.sizeOf49 (fun i hi => ⟨_, _, pt_agg Tryd.isAgg49 Tryd.sizeOf49, pt_agg Tryd.isAgg49 Tryd.sizeOf49, same_entry ((show Pairs 1 xs (i * 2) by simpa using hx.one hi).cut (by omega)) ((show Pairs 1 ys (i * 2) by simpa using hy.one hi).cut (by omega))⟩)
theorem same_files {d : Nat} {xs ys : Array Value} (hx : Pairs 4 xs 0) (hy : Pairs 4 ys 0) : Same Tryd.prog (d + 3) 53 (.agg xs) (.agg ys) :=
  same_array Tryd.underlying53 Tryd.sizeOf52 (fun i hi => ⟨_, _, pt_agg Tryd.isAgg52 Tryd.sizeOf52, pt_agg Tryd.isAgg52 Tryd.sizeOf52, same_file ((show Pairs 1 xs (i * 2) by simpa using hx.one hi).cut (by omega)) ((show Pairs 1 ys (i * 2) by simpa using hy.one hi).cut (by omega))⟩)
structure SlotAt (xs : Array Value) : Prop where
  kind : IntAt xs 0
  parent : IntAt xs 1
  table : IntAt xs 2
  pages : Pairs 4 xs 3
  files : Pairs 4 xs 11
  code : IntAt xs 19
theorem same_slot {d : Nat} {xs ys : Array Value} (hx : SlotAt xs) (hy : SlotAt ys) : Same Tryd.prog (d + 4) 55 (.agg xs) (.agg ys) := by
  refine same_struct (by kernel_rfl) (by kernel_rfl) ?_
  have e : (Tryd.prog.fieldsOf 55).toList.map (fun f => (f.name != "_", f.type, f.offset)) = [(true, 3, 0), (true, 3, 1), (true, 3, 2), (true, 50, 3), (true, 53, 11), (true, 3, 19)] := by kernel_rfl
  intro f hf
  have hm := List.mem_map_of_mem (f := fun f : Field => (f.name != "_", f.type, f.offset)) hf
  rw [e] at hm
  generalize hn : (f.name != "_") = n at hm
  generalize f.type = ft at *
  generalize f.offset = fo at *
  simp at hm
  rcases hm with ⟨rfl, rfl, rfl⟩ | ⟨rfl, rfl, rfl⟩ | ⟨rfl, rfl, rfl⟩ | ⟨rfl, rfl, rfl⟩ | ⟨rfl, rfl, rfl⟩ | ⟨rfl, rfl, rfl⟩
  · exact ⟨by simpa using hn, part_int hx.kind hy.kind⟩
  · exact ⟨by simpa using hn, part_int hx.parent hy.parent⟩
  · exact ⟨by simpa using hn, part_int hx.table hy.table⟩
  · exact ⟨by simpa using hn, _, _, pt_agg Tryd.isAgg50 Tryd.sizeOf50, pt_agg Tryd.isAgg50 Tryd.sizeOf50, same_pages (hx.pages.cut (by omega)) (hy.pages.cut (by omega))⟩
  · exact ⟨by simpa using hn, _, _, pt_agg Tryd.isAgg53 Tryd.sizeOf53, pt_agg Tryd.isAgg53 Tryd.sizeOf53, same_files (hx.files.cut (by omega)) (hy.files.cut (by omega))⟩
  · exact ⟨by simpa using hn, part_int hx.code hy.code⟩
end Go.Proofs.YtcgabodkegcpgaaDoor
