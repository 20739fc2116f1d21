/- What a row's list gives: the calls' table lies in memory. -/
import Derived.Test.YtcgabodkegcpgaaGreatDoorRows
import Derived.Test.YtcgabodkegcpgaaGreatDoorCall
import Derived.ProofKit
import Derived.OpenShut
import Derived.Lib.LaidTab
namespace Go.Proofs.YtcgabodkegcpgaaGreatDoor
open Go.ChangeShapes Go.WideShapes Go.ChangeAt Go.RowKit
set_option linter.unusedVariables false

theorem gCalls : Tryz.prog.globalNamed "burrow/kernel.calls" = some 0 := by kernel_rfl
theorem gCallsType : (Tryz.prog.globals[0]?).map (·.type) = some 123 := by kernel_rfl
theorem cellsRow : Tryz.prog.cellsOf 122 = 4 := by kernel_rfl
theorem cellsRows : Tryz.prog.cellsOf 123 = 80 := by kernel_rfl
theorem cellsBool : Tryz.prog.cellsOf 4 = 1 := by kernel_rfl
theorem cellsThings : Tryz.prog.cellsOf 120 = 3 := by kernel_rfl
theorem cellsThing : Tryz.prog.cellsOf 119 = 1 := by kernel_rfl

def rowD {H : Type} (i : Nat) : DataW H := .agg [.lit (.bool (there i)), .agg [.lit (.int .i64 ((argKinds i).getD 0 0)), .lit (.int .i64 ((argKinds i).getD 1 0)), .lit (.int .i64 ((argKinds i).getD 2 0))]]
theorem laid_rows {H : Type} : (Rows.laid_burrow_kernel_calls : DataW H) = .agg ((List.range 20).map rowD) := rfl

set_option maxRecDepth 100000 in
theorem row_cells {H : Type} {enc : TypeId × Value → H} {w : World} {base : Nat} {sp : Nat → Bool} {held : Bool} {fuel : Nat} {cs : List Value} {b : Bool} {x y z : Int} {p : List MemPlace}
    (h : DataW.trod enc Tryz.prog w base sp held fuel 122 cs = some (.agg [.lit (.bool b), .agg [.lit (.int .i64 x), .lit (.int .i64 y), .lit (.int .i64 z)]], p)) :
    cs = [.bool b, .int .i64 x, .int .i64 y, .int .i64 z] := by
  obtain ⟨y0, y1, n, he, hl, h0, h1⟩ := trod_struct2 Tryz.underlying122 h
  rw [cellsRow] at hl
  match cs, hl with
  | [c0, c1, c2, c3], _ =>
    obtain ⟨b', hb1, hb2⟩ := DataW.trod_bool Tryz.underlying4 h0
    obtain ⟨xs, m, hm, hx, hxl, hxn, hxi⟩ := DataW.trod_array Tryz.underlying120 h1
    have e0 := hxi 0 (by omega)
    have e1 := hxi 1 (by omega)
    have e2 := hxi 2 (by omega)
    match xs, hxn with
    | [d0, d1, d2], _ =>
      obtain ⟨i0, a0, a0', _⟩ := DataW.trod_int Tryz.underlying119 e0
      obtain ⟨i1, a1, a1', _⟩ := DataW.trod_int Tryz.underlying119 e1
      obtain ⟨i2, a2, a2', _⟩ := DataW.trod_int Tryz.underlying119 e2
      subst hb2
      subst a0' a1' a2'
      subst hx
      simp only [Prod.mk.injEq, DataW.agg.injEq, List.cons.injEq, DataW.lit.injEq, Lit.bool.injEq, Lit.int.injEq, List.map_cons, List.map_nil, and_true, true_and] at he
      rw [cellsBool] at hb1
      rw [cellsThing, cellsThings] at a0 a1 a2
      simp at hb1 a0 a1 a2
      obtain ⟨⟨rfl, rfl, rfl, rfl⟩, _⟩ := he
      simp [hb1, a0, a1, a2]

set_option maxRecDepth 100000 in
theorem tab_of {laid : List (String × DataW Unit)} {W : World} (hl : laid = [("burrow/kernel.calls", Rows.laid_burrow_kernel_calls)]) (h : laidMetH Tryz.prog laid W) : Tab W := by
  subst hl
  have h' : laidMet Tryz.prog [("burrow/kernel.calls", Rows.laid_burrow_kernel_calls)] W := h
  obtain ⟨ps, ⟨g', t', cs, fuel, p, q, hg', ht', hvar, hd, _, _⟩, _⟩ := h'
  obtain rfl := Option.some.inj (gCalls.symm.trans hg')
  obtain rfl := Option.some.inj (gCallsType.symm.trans ht')
  rw [laid_rows] at hd
  obtain ⟨xs, m, hm, hx, hxl, hxn, hxi⟩ := DataW.trod_array Tryz.underlying123 hd
  have hfst : xs.map (·.1) = (List.range 20).map rowD := by
    have := congrArg Prod.fst hx
    simpa using this.symm
  have row : ∀ i, i < 20 → (cs.toList.drop (i * 4)).take 4 = [.bool (there i), .int .i64 ((argKinds i).getD 0 0), .int .i64 ((argKinds i).getD 1 0), .int .i64 ((argKinds i).getD 2 0)] := fun i hi => by
    have e := hxi i hi
    rw [cellsRow] at e
    have hlt : i < xs.length := by omega
    have hg : (xs.map (·.1))[i]? = some (rowD i) := by rw [hfst, List.getElem?_map, List.getElem?_range hi]; rfl
    rw [List.getElem?_map, List.getElem?_eq_getElem hlt] at hg
    rw [List.getElem?_eq_getElem hlt] at e
    have hx1 : xs[i].1 = rowD i := by simpa using hg
    have hx2 : xs[i] = (rowD i, xs[i].2) := by rw [← hx1]
    rw [hx2] at e
    exact row_cells e
  have cell : ∀ i j, i < 20 → j < 4 → W.cell? ⟨0, i * 4 + j, none⟩ = ([.bool (there i), .int .i64 ((argKinds i).getD 0 0), .int .i64 ((argKinds i).getD 1 0), .int .i64 ((argKinds i).getD 2 0)] : List Value)[j]? := fun i j hi hj => by
    rw [World.var?_cell gCalls hvar (i * 4 + j), ← row i hi, List.getElem?_take, if_pos hj, List.getElem?_drop]
    simp
  refine ⟨fun i hi => ?_, fun i j hi hj => ?_⟩
  · exact cell i 0 hi (by omega)
  · have := cell i (1 + j) hi (by omega)
    rw [Nat.add_assoc, this]
    obtain rfl | rfl | rfl : j = 0 ∨ j = 1 ∨ j = 2 := by omega
    all_goals rfl
end Go.Proofs.YtcgabodkegcpgaaGreatDoor
