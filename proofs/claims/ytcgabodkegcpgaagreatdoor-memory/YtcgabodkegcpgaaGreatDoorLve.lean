/- A call that starts no goroutine leaves none: the row that says 'leaving', and its tied card. -/
import Derived.Conc.Holds
import Derived.SevenTiedAt
import Derived.LaidByTextLater
import Derived.Test.YtcgabodkegcpgaaGreatDoorProg
import Derived.WalkKit
import Derived.Deep.MidRow
import Derived.ProofKit
import Derived.OpenShut
import Derived.Deep.Grids
import Derived.Deep.DeepHandedRow
import Derived.Deep.Strs
import Derived.Laws.IdiomArrays
import Derived.Test.YtcgabodkegcpgaaGreatDoorKer
import Derived.Deep.OwnRows
namespace Go.Proofs.YtcgabodkegcpgaaGreatDoor
open Go
theorem leaving_of_handed {a : Assume} {C : Checked} {os : Os} {f : FuncId} {r : Reach} {Pre : World → Array Value → Prop} {Post : World → Array Value → Value → World → Prop} (h : ReturnsInHanded a C os f r Pre Post) : ReturnsInLeavingWide a C os f r Pre Post :=
  fun enter => ReturnsInOpen.mono (fun m _ _ x => by
    obtain ⟨⟨q1, q2⟩, hh, he⟩ := x
    refine ⟨hh, ⟨fun g hg => ⟨0, ?_⟩, q2⟩, he⟩
    have := List.all_eq_true.1 q1 g hg
    show g.status = .finished
    simpa using this) (fun _ x => x) (h enter)
theorem tied_goes (Lk : Looks) {p : Pinned} {s : OpenSpec} {c : OpenClaim} (kinds : List LaidKind) (tests : Bool) (har : Bool × String) (lk : Bool) (hc : c.holds p s) (hw : c.wfByText s = true) (htie : c.laidByTextAt Lk p kinds tests)
    (hst : c.start = .entering) (hnb : c.noBlocks = false ∧ c.again = false) (hm : p.checked.prog.mainIs = some (har.1, har.2.toList)) (hn : (!har.1 && har.2.isEmpty && !lk) = false)
    (hl : ∀ f fn, p.checked.prog.funcNamed c.func = some f → p.checked.prog.funcs[f]? = some fn → lk = p.checked.prog.looks [] ∧ ∀ (j : Nat) t, fn.params[j]? = some t → p.checked.prog.wantsStandIn t = false)
    (hg : true = c.goesBy p.checked.prog) :
    Claim7.holds p (.plain s) { stood := { row := c, standIns := [], harness := har, looks := lk }, kinds := [], alts := [], goes := true, laidByText := true, laidKinds := kinds, laidTests := tests, laidLooks := Lk } := by
  have h6 : Claim7.isSixth { stood := { row := c, standIns := [], harness := har, looks := lk }, kinds := [] } = false := by simpa [Claim7.isSixth] using hn
  exact ⟨Claim7.tied_new_at Lk kinds tests (Claim7.new_of_sixth hc har lk hst hnb hm h6 hl) hw, (fun D hD => by cases hD), htie, (fun h => by cases h), hg⟩
end Go.Proofs.YtcgabodkegcpgaaGreatDoor
namespace Go.Proofs.YtcgabodkegcpgaaGreatDoor
open Go.RowKit
/-- An act's ten cells. -/
def actCells (k s c a0 a1 a2 o0 o1 o2 : Int) (b : Bool) : List Value := [.int .i64 k, .int .i64 s, .int .i64 c, .int .i64 a0, .int .i64 a1, .int .i64 a2, .int .i64 o0, .int .i64 o1, .int .i64 o2, .bool b]
def Script (w : World) (a : Option Addr) (n : Nat) : Prop := ∀ i, i < n → ∃ g o k s c a0 a1 a2 o0 o1 o2 b, a = some ⟨g, o, none⟩ ∧ g < w.heap.size ∧ w.rangeAt g (o + i * 10) (actCells k s c a0 a1 a2 o0 o1 o2 b)
end Go.Proofs.YtcgabodkegcpgaaGreatDoor
namespace Go.Proofs.YtcgabodkegcpgaaGreatDoor
open Go.ChangeShapes Go.WideShapes Go.ChangeAt Go.RowKit Go.Deep
set_option linter.unusedVariables false

theorem cells_int : Tryz.prog.cellsOf 3 = 1 := by kernel_rfl
theorem cells_bool : Tryz.prog.cellsOf 4 = 1 := by kernel_rfl
theorem cells_arr3 : Tryz.prog.cellsOf 25 = 3 := by kernel_rfl
theorem cells_op : Tryz.prog.cellsOf 27 = 3 := by kernel_rfl
theorem cells_act : Tryz.prog.cellsOf 29 = 10 := by kernel_rfl
theorem cells_config : Tryz.prog.cellsOf 23 = 3 := by kernel_rfl

section
variable {H : Type} {enc : TypeId × Value → H} {w : World} {base : Nat} {spare : Nat → Bool} {held : Bool} {fuel : Nat} {cs : List Value} {x : DataW H × List MemPlace}

theorem open_int1 {c : Value} (h : DataW.trod enc Tryz.prog w base spare held fuel 3 [c] = some x) : ∃ n, c = .int .i64 n ∧ -9223372036854775808 ≤ n ∧ n < 9223372036854775808 := by
  obtain ⟨n, hc, _, hw⟩ := DataW.trod_int Tryz.underlying3 h
  simp only [List.cons.injEq, and_true] at hc
  refine ⟨n, hc, ?_⟩
  simp only [Lit.wf, Bool.and_eq_true, decide_eq_true_eq] at hw
  have e1 : IntKind.i64.min = -9223372036854775808 := by decide
  have e2 : IntKind.i64.max = 9223372036854775807 := by decide
  rw [e1, e2] at hw
  omega
set_option maxRecDepth 100000 in
theorem open_three {f0 f1 f2 : Field} {t : TypeId} (ht : Tryz.prog.underlying t = some (.struct #[f0, f1, f2])) (hc : Tryz.prog.cellsOf t = 3) (h0 : f0.type = 3 ∧ f0.offset = 0) (h1 : f1.type = 3 ∧ f1.offset = 1) (h2 : f2.type = 3 ∧ f2.offset = 2)
    (h : DataW.trod enc Tryz.prog w base spare held fuel t cs = some x) : ∃ a b c, cs = [.int .i64 a, .int .i64 b, .int .i64 c] ∧ (-9223372036854775808 ≤ a ∧ a < 9223372036854775808) ∧ (-9223372036854775808 ≤ b ∧ b < 9223372036854775808) ∧ (-9223372036854775808 ≤ c ∧ c < 9223372036854775808) := by
  obtain ⟨y0, y1, y2, n, _, hl, t0, t1, t2⟩ := trod_struct3 ht h
  rw [hc] at hl
  match cs, hl with
  | [c0, c1, c2], _ =>
    rw [h0.1, h0.2, cells_int] at t0
    rw [h1.1, h1.2, cells_int] at t1
    rw [h2.1, h2.2, cells_int] at t2
    simp only [List.drop, List.take] at t0 t1 t2
    obtain ⟨a, rfl, ha⟩ := open_int1 t0
    obtain ⟨b, rfl, hb⟩ := open_int1 t1
    obtain ⟨c, rfl, hc⟩ := open_int1 t2
    exact ⟨a, b, c, rfl, ha, hb, hc⟩
theorem open_config (h : DataW.trod enc Tryz.prog w base spare held fuel 23 cs = some x) : ∃ a b c, cs = [.int .i64 a, .int .i64 b, .int .i64 c] ∧ (-9223372036854775808 ≤ a ∧ a < 9223372036854775808) ∧ (-9223372036854775808 ≤ b ∧ b < 9223372036854775808) ∧ (-9223372036854775808 ≤ c ∧ c < 9223372036854775808) :=
  open_three Tryz.underlying23 cells_config ⟨rfl, rfl⟩ ⟨rfl, rfl⟩ ⟨rfl, rfl⟩ h

set_option maxRecDepth 100000 in
theorem open_act (h : DataW.trod enc Tryz.prog w base spare held fuel 29 cs = some x) : ∃ k s c a0 a1 a2 o0 o1 o2 b, cs = actCells k s c a0 a1 a2 o0 o1 o2 b := by
  obtain ⟨xs, n, _, _, hl, hlen, hf⟩ := DataW.trod_struct Tryz.underlying29 h
  rw [cells_act] at hl
  match xs, hlen, cs, hl with
  | [y0, y1, y2, y3, y4, y5], _, [c0, c1, c2, c3, c4, c5, c6, c7, c8, c9], _ =>
    have t0 := hf 0 _ rfl
    have t1 := hf 1 _ rfl
    have t2 := hf 2 _ rfl
    have t3 := hf 3 _ rfl
    have t4 := hf 4 _ rfl
    have t5 := hf 5 _ rfl
    simp only [List.getElem?_cons_zero, List.getElem?_cons_succ] at t0 t1 t2 t3 t4 t5
    obtain ⟨k, rfl, _⟩ := open_int1 t0
    obtain ⟨s, rfl, _⟩ := open_int1 t1
    obtain ⟨c, rfl, _⟩ := open_int1 t2
    obtain ⟨z0, z1, z2, m, _, u0, u1, u2⟩ := trod_array3 Tryz.underlying25 cells_int t3
    obtain ⟨a0, rfl, _⟩ := open_int1 u0
    obtain ⟨a1, rfl, _⟩ := open_int1 u1
    obtain ⟨a2, rfl, _⟩ := open_int1 u2
    obtain ⟨o0, o1, o2, ho, _⟩ := open_three Tryz.underlying27 cells_op ⟨rfl, rfl⟩ ⟨rfl, rfl⟩ ⟨rfl, rfl⟩ t4
    obtain ⟨b, hb, _⟩ := DataW.trod_bool Tryz.underlying4 t5
    have ho' : [c6, c7, c8] = [.int .i64 o0, .int .i64 o1, .int .i64 o2] := ho
    have hb' : [c9] = [.bool b] := hb
    simp only [List.cons.injEq, and_true] at ho' hb'
    obtain ⟨rfl, rfl, rfl⟩ := ho'
    subst hb'
    exact ⟨k, s, c, a0, a1, a2, o0, o1, o2, b, rfl⟩

theorem spot_of {W : World} {x : Addr} {i : Nat} {v : Value} (h : W.cell? (x.add i) = some v) : W.cell? ⟨x.block, x.off + i, none⟩ = some v ∧ (x.add i).spot = none := by
  have hs := World.cell?_spot h
  refine ⟨?_, hs⟩
  obtain ⟨b, o, s⟩ := x
  unfold Addr.add at h hs
  split at h
  · rename_i e
    subst e
    simp at hs
    subst hs
    simpa using h
  · simpa using h
theorem add_spot {x : Addr} {i : Nat} (h : (x.add i).spot = none) (hi : i ≠ 0 ∨ True) : (x.add i) = ⟨x.block, x.off + i, (x.add i).spot⟩ := by
  obtain ⟨b, o, s⟩ := x
  unfold Addr.add at h ⊢
  split
  · rename_i e; subst e; simp
  · rfl

/-- A script that the reader reads is a script in memory. -/
theorem open_acts {v : Value} (h : DataW.trod enc Tryz.prog w base (fun _ => true) held fuel 24 [v] = some x) : ∃ a n c, v = .slice a n c ∧ n ≤ maxLen ∧ Script w a n := by
  rcases open_slice Tryz.underlying24 h with ⟨hc, _⟩ | ⟨a, len, cap, m, n, D, Pl, hc, _, hl, hm, hmm, _, hx⟩
  · simp only [List.cons.injEq, and_true] at hc
    exact ⟨none, 0, 0, hc, by simp [maxLen], fun i hi => by omega⟩
  · simp only [List.cons.injEq, and_true] at hc
    simp only [if_true] at hmm
    subst hmm
    refine ⟨some a, len, m, hc, by omega, fun i hi => ?_⟩
    rw [cells_act] at hx
    have key : ∀ i, i < m → ∃ cs', (∀ j, j < 10 → w.cell? ((a.add (i * 10)).add j) = cs'[j]?) ∧ ∃ k s c a0 a1 a2 o0 o1 o2 b, cs' = actCells k s c a0 a1 a2 o0 o1 o2 b := fun i hi => by
      obtain ⟨cs', h1, h2⟩ := hx i hi
      obtain ⟨_, _, hg⟩ := World.cells?_some h1
      exact ⟨cs', hg, open_act h2⟩
    have sp : a.spot = none := by
      obtain ⟨cs', hg, k, s, c, a0, a1, a2, o0, o1, o2, b, rfl⟩ := key 0 (by omega)
      have := hg 0 (by omega)
      have h0 := (spot_of (v := .int .i64 k) this).2
      obtain ⟨p, q, r⟩ := a
      simpa [Addr.add] using h0
    obtain ⟨g, o, r⟩ := a
    obtain rfl : r = none := sp
    obtain ⟨cs', hg, k, s, c, a0, a1, a2, o0, o1, o2, b, rfl⟩ := key i (by omega)
    have hr : w.rangeAt g (o + i * 10) (actCells k s c a0 a1 a2 o0 o1 o2 b) := fun j v hv => by
      have hj : j < 10 := by
        have := (List.getElem?_eq_some_iff.1 hv).1
        exact this
      have e := hg j hj
      rw [hv] at e
      have := (spot_of e).1
      have e2 : ((⟨g, o, none⟩ : Addr).add (i * 10)).block = g ∧ ((⟨g, o, none⟩ : Addr).add (i * 10)).off = o + i * 10 := by
        unfold Addr.add; split
        · rename_i h0; simp at h0 ⊢; omega
        · simp
      rw [e2.1, e2.2] at this
      exact this
    refine ⟨g, o, k, s, c, a0, a1, a2, o0, o1, o2, b, rfl, World.block_lt_of_cell? w ⟨g, o + i * 10 + 0, none⟩ (hr 0 _ rfl), hr⟩
end
end Go.Proofs.YtcgabodkegcpgaaGreatDoor
namespace Go.Proofs.YtcgabodkegcpgaaGreatDoor
open Go.RowKit
set_option linter.unusedVariables false

theorem rowIs_setCells {b t n : Nat} : ∀ (vs : List Value) (o : Nat) {w : World} {f : Nat → Value} (h : w.rowIs b t n f), (w.setCells b o vs).rowIs b t n (fun j => if o ≤ j ∧ j < o + vs.length then vs.getD (j - o) (.bool false) else f j)
  | [], o, w, f, h => by
    show w.rowIs b t n _
    refine h.congr fun j hj => ?_
    rw [if_neg (by simp)]
  | v :: r, o, w, f, h => by
    show ((w.setCell ⟨b, o, none⟩ v).setCells b (o + 1) r).rowIs b t n _
    refine (rowIs_setCells r (o + 1) (h.set o v)).congr fun j hj => ?_
    by_cases e : j = o
    · subst e
      rw [if_neg (by omega)]
      simp
    · by_cases e2 : o + 1 ≤ j ∧ j < o + 1 + r.length
      · rw [if_pos e2, if_pos (by simp; omega)]
        obtain ⟨m, hm⟩ : ∃ m, j = o + 1 + m := ⟨j - (o + 1), by omega⟩
        subst hm
        rw [show o + 1 + m - (o + 1) = m by omega, show o + 1 + m - o = m + 1 by omega]
        rfl
      · rw [if_neg e2, if_neg e, if_neg (by simp only [List.length_cons]; omega)]

theorem size_setCells {b : Nat} : ∀ (vs : List Value) (o : Nat) (w : World), (w.setCells b o vs).heap.size = w.heap.size
  | [], _, _ => rfl
  | v :: r, o, w => by show ((w.setCell ⟨b, o, none⟩ v).setCells b (o + 1) r).heap.size = _; rw [size_setCells r]; exact size_setCell _ _ _
theorem below_setCells {B b : Nat} {a : World} (hb : B ≤ b) : ∀ (vs : List Value) (o : Nat) {w : World} (h : Below B a w), Below B a (w.setCells b o vs)
  | [], _, _, h => h
  | v :: r, o, w, h => below_setCells hb r (o + 1) (h.setCell hb v)
theorem heap_setCells {b k : Nat} (hk : k ≠ b) : ∀ (vs : List Value) (o : Nat) (w : World), (w.setCells b o vs).heap[k]? = w.heap[k]?
  | [], _, _ => rfl
  | v :: r, o, w => by show ((w.setCell ⟨b, o, none⟩ v).setCells b (o + 1) r).heap[k]? = _; rw [heap_setCells hk r]; exact Below.heap_setCell _ _ _ _ hk

theorem rowIs_there {w : World} {b t n : Nat} {f : Nat → Value} (h : w.rowIs b t n f) {o m : Nat} (hm : o + m ≤ n) : w.there b o m := fun j hj =>
  ⟨by rw [h.cell (by omega)]; rfl, h.frozen _⟩
theorem rowIs_range {w : World} {b t n : Nat} {f : Nat → Value} (h : w.rowIs b t n f) {o m : Nat} (hm : o + m ≤ n) : w.rangeAt b o ((List.range m).map fun j => f (o + j)) := fun j v hv => by
  have hj : j < m := by have := (List.getElem?_eq_some_iff.1 hv).1; simpa using this
  rw [List.getElem?_map, List.getElem?_range hj] at hv
  rw [h.cell (by omega)]
  exact hv
/-- A new row. -/
theorem rowIs_new (w : World) (c : Array Value) (t : TypeId) : (w.alloc (.cells c t)).rowIs w.heap.size t c.size (fun j => c.getD j (.bool false)) :=
  World.rowIs_alloc w c t _ (fun i hi => by simp [hi])
theorem rowIs_new2 (w : World) (o : Obj) (c : Array Value) (t : TypeId) : ((w.alloc o).alloc (.cells c t)).rowIs (w.heap.size + 1) t c.size (fun j => c.getD j (.bool false)) := by
  have h := rowIs_new (w.alloc o) c t
  have e : (w.alloc o).heap.size = w.heap.size + 1 := by simp
  rw [e] at h
  exact h
/-- A struct result that lies in a variable of its own. -/
theorem results_cell_range {P : Program} {fn : Func} {p : Tmp} {ty : TypeId} (h : fn.results = #[.cell p ty]) (tmps : Array Value) (w : World) (b : Nat) (cs : List Value) (d : TypeDesc)
    (hp : tmps.getD p undef = .pointer (some ⟨b, 0, none⟩)) (hc : w.rangeAt b 0 cs) (hu : P.underlying ty = some d) (hd : d.isRow = true) (hi : (P.info? ty).map (·.size) = some cs.length) :
    (results fn tmps).run P w = .ok (.agg cs.toArray) w := by
  have hp' : tmps[p]?.getD undef = .pointer (some ⟨b, 0, none⟩) := by simpa using hp
  simp [results, h, hp', asAddr, run_loadVar_mid w b 0 ty cs d hc hu hd hi]
end Go.Proofs.YtcgabodkegcpgaaGreatDoor
