/- The settings and the script of a statement, as the reader reads them: plain numbers. -/
import Derived.Test.YtcgabodkegcpgaaDoorProg
import Derived.WalkKit
import Derived.ProofKit
import Derived.OpenShut
import Derived.Deep.Grids
import Derived.Deep.DeepHandedRow
import Derived.Deep.Strs
import Derived.Laws.IdiomArrays
import Derived.Test.YtcgabodkegcpgaaDoorScr
namespace Go.Proofs.YtcgabodkegcpgaaDoor
open Go.ChangeShapes Go.WideShapes Go.ChangeAt Go.RowKit Go.Deep
set_option linter.unusedVariables false

theorem cells_int : Tryd.prog.cellsOf 3 = 1 := by kernel_rfl
theorem cells_bool : Tryd.prog.cellsOf 4 = 1 := by kernel_rfl
theorem cells_arr3 : Tryd.prog.cellsOf 33 = 3 := by kernel_rfl
theorem cells_op : Tryd.prog.cellsOf 38 = 3 := by kernel_rfl
theorem cells_act : Tryd.prog.cellsOf 40 = 10 := by kernel_rfl
theorem cells_config : Tryd.prog.cellsOf 30 = 3 := by kernel_rfl

section
variable {H : Type} {enc : TypeId × Value → H} {w : World} {base : Nat} {spare : Nat → Bool} {held : Bool} {fuel : Nat} {cs : List Value} {x : DataW H × List MemPlace}

theorem open_int1 {c : Value} (h : DataW.trod enc Tryd.prog w base spare held fuel 3 [c] = some x) : ∃ n, c = .int .i64 n ∧ -9223372036854775808 ≤ n ∧ n < 9223372036854775808 := by
  obtain ⟨n, hc, _, hw⟩ := DataW.trod_int Tryd.underlying3 h
  simp only [List.cons.injEq, and_true] at hc
  refine ⟨n, hc, ?_⟩
  simp only [Lit.wf, Bool.and_eq_true, decide_eq_true_eq] at hw
  have e1 : IntKind.i64.min = -9223372036854775808 := by decide
  have e2 : IntKind.i64.max = 9223372036854775807 := by decide
  rw [e1, e2] at hw
  omega
set_option maxRecDepth 100000 in
theorem open_three {f0 f1 f2 : Field} {t : TypeId} (ht : Tryd.prog.underlying t = some (.struct #[f0, f1, f2])) (hc : Tryd.prog.cellsOf t = 3) (h0 : f0.type = 3 ∧ f0.offset = 0) (h1 : f1.type = 3 ∧ f1.offset = 1) (h2 : f2.type = 3 ∧ f2.offset = 2)
    (h : DataW.trod enc Tryd.prog w base spare held fuel t cs = some x) : ∃ a b c, cs = [.int .i64 a, .int .i64 b, .int .i64 c] ∧ (-9223372036854775808 ≤ a ∧ a < 9223372036854775808) ∧ (-9223372036854775808 ≤ b ∧ b < 9223372036854775808) ∧ (-9223372036854775808 ≤ c ∧ c < 9223372036854775808) := by
  obtain ⟨y0, y1, y2, n, _, hl, t0, t1, t2⟩ := trod_struct3 ht h
  rw [hc] at hl
  match cs, hl with
  | [c0, c1, c2], _ =>
    rw [h0.1, h0.2, cells_int] at t0
    rw [h1.1, h1.2, cells_int] at t1
    rw [h2.1, h2.2, cells_int] at t2
    simp only [List.drop, List.take] at t0 t1 t2
    obtain ⟨a, rfl, ha⟩ := open_int1 t0
    obtain ⟨b, rfl, hb⟩ := open_int1 t1
    obtain ⟨c, rfl, hc⟩ := open_int1 t2
    exact ⟨a, b, c, rfl, ha, hb, hc⟩
theorem open_config (h : DataW.trod enc Tryd.prog w base spare held fuel 30 cs = some x) : ∃ a b c, cs = [.int .i64 a, .int .i64 b, .int .i64 c] ∧ (-9223372036854775808 ≤ a ∧ a < 9223372036854775808) ∧ (-9223372036854775808 ≤ b ∧ b < 9223372036854775808) ∧ (-9223372036854775808 ≤ c ∧ c < 9223372036854775808) :=
  open_three Tryd.underlying30 cells_config ⟨rfl, rfl⟩ ⟨rfl, rfl⟩ ⟨rfl, rfl⟩ h

set_option maxRecDepth 100000 in
theorem open_act (h : DataW.trod enc Tryd.prog w base spare held fuel 40 cs = some x) : ∃ k s c a0 a1 a2 o0 o1 o2 b, cs = actCells k s c a0 a1 a2 o0 o1 o2 b := by
  obtain ⟨xs, n, _, _, hl, hlen, hf⟩ := DataW.trod_struct Tryd.underlying40 h
  rw [cells_act] at hl
  match xs, hlen, cs, hl with
  | [y0, y1, y2, y3, y4, y5], _, [c0, c1, c2, c3, c4, c5, c6, c7, c8, c9], _ =>
    have t0 := hf 0 _ rfl
    have t1 := hf 1 _ rfl
    have t2 := hf 2 _ rfl
    have t3 := hf 3 _ rfl
    have t4 := hf 4 _ rfl
    have t5 := hf 5 _ rfl
    simp only [List.getElem?_cons_zero, List.getElem?_cons_succ] at t0 t1 t2 t3 t4 t5
    obtain ⟨k, rfl, _⟩ := open_int1 t0
    obtain ⟨s, rfl, _⟩ := open_int1 t1
    obtain ⟨c, rfl, _⟩ := open_int1 t2
    obtain ⟨z0, z1, z2, m, _, u0, u1, u2⟩ := trod_array3 Tryd.underlying33 cells_int t3
    obtain ⟨a0, rfl, _⟩ := open_int1 u0
    obtain ⟨a1, rfl, _⟩ := open_int1 u1
    obtain ⟨a2, rfl, _⟩ := open_int1 u2
    obtain ⟨o0, o1, o2, ho, _⟩ := open_three Tryd.underlying38 cells_op ⟨rfl, rfl⟩ ⟨rfl, rfl⟩ ⟨rfl, rfl⟩ t4
    obtain ⟨b, hb, _⟩ := DataW.trod_bool Tryd.underlying4 t5
    have ho' : [c6, c7, c8] = [.int .i64 o0, .int .i64 o1, .int .i64 o2] := ho
    have hb' : [c9] = [.bool b] := hb
    simp only [List.cons.injEq, and_true] at ho' hb'
    obtain ⟨rfl, rfl, rfl⟩ := ho'
    subst hb'
    exact ⟨k, s, c, a0, a1, a2, o0, o1, o2, b, rfl⟩

theorem spot_of {W : World} {x : Addr} {i : Nat} {v : Value} (h : W.cell? (x.add i) = some v) : W.cell? ⟨x.block, x.off + i, none⟩ = some v ∧ (x.add i).spot = none := by
  have hs := World.cell?_spot h
  refine ⟨?_, hs⟩
  obtain ⟨b, o, s⟩ := x
  unfold Addr.add at h hs
  split at h
  · rename_i e
    subst e
    simp at hs
    subst hs
    simpa using h
  · simpa using h
theorem add_spot {x : Addr} {i : Nat} (h : (x.add i).spot = none) (hi : i ≠ 0 ∨ True) : (x.add i) = ⟨x.block, x.off + i, (x.add i).spot⟩ := by
  obtain ⟨b, o, s⟩ := x
  unfold Addr.add at h ⊢
  split
  · rename_i e; subst e; simp
  · rfl

/-- A script that the reader reads is a script in memory. -/
theorem open_acts {v : Value} (h : DataW.trod enc Tryd.prog w base (fun _ => true) held fuel 35 [v] = some x) : ∃ a n c, v = .slice a n c ∧ n ≤ maxLen ∧ Script w a n := by
  rcases open_slice Tryd.underlying35 h with ⟨hc, _⟩ | ⟨a, len, cap, m, n, D, Pl, hc, _, hl, hm, hmm, _, hx⟩
  · simp only [List.cons.injEq, and_true] at hc
    exact ⟨none, 0, 0, hc, by simp [maxLen], fun i hi => by omega⟩
  · simp only [List.cons.injEq, and_true] at hc
    simp only [if_true] at hmm
    subst hmm
    refine ⟨some a, len, m, hc, by omega, fun i hi => ?_⟩
    rw [cells_act] at hx
    have key : ∀ i, i < m → ∃ cs', (∀ j, j < 10 → w.cell? ((a.add (i * 10)).add j) = cs'[j]?) ∧ ∃ k s c a0 a1 a2 o0 o1 o2 b, cs' = actCells k s c a0 a1 a2 o0 o1 o2 b := fun i hi => by
      obtain ⟨cs', h1, h2⟩ := hx i hi
      obtain ⟨_, _, hg⟩ := World.cells?_some h1
      exact ⟨cs', hg, open_act h2⟩
    have sp : a.spot = none := by
      obtain ⟨cs', hg, k, s, c, a0, a1, a2, o0, o1, o2, b, rfl⟩ := key 0 (by omega)
      have := hg 0 (by omega)
      have h0 := (spot_of (v := .int .i64 k) this).2
      obtain ⟨p, q, r⟩ := a
      simpa [Addr.add] using h0
    obtain ⟨g, o, r⟩ := a
    obtain rfl : r = none := sp
    obtain ⟨cs', hg, k, s, c, a0, a1, a2, o0, o1, o2, b, rfl⟩ := key i (by omega)
    have hr : w.rangeAt g (o + i * 10) (actCells k s c a0 a1 a2 o0 o1 o2 b) := fun j v hv => by
      have hj : j < 10 := by
        have := (List.getElem?_eq_some_iff.1 hv).1
        exact this
      have e := hg j hj
      rw [hv] at e
      have := (spot_of e).1
      have e2 : ((⟨g, o, none⟩ : Addr).add (i * 10)).block = g ∧ ((⟨g, o, none⟩ : Addr).add (i * 10)).off = o + i * 10 := by
        unfold Addr.add; split
        · rename_i h0; simp at h0 ⊢; omega
        · simp
      rw [e2.1, e2.2] at this
      exact this
    refine ⟨g, o, k, s, c, a0, a1, a2, o0, o1, o2, b, rfl, World.block_lt_of_cell? w ⟨g, o + i * 10 + 0, none⟩ (hr 0 _ rfl), hr⟩
end
end Go.Proofs.YtcgabodkegcpgaaDoor
