/- Rows of cells that a call makes: what lies in them behind a store of a whole struct. No statement of the program is proved here. -/
import Derived.Test.YtcgabodkegcpgaaDoorKer
import Derived.Deep.OwnRows
import Derived.Deep.MidRow
namespace Go.Proofs.YtcgabodkegcpgaaDoor
open Go.RowKit
set_option linter.unusedVariables false

theorem rowIs_setCells {b t n : Nat} : ∀ (vs : List Value) (o : Nat) {w : World} {f : Nat → Value} (h : w.rowIs b t n f), (w.setCells b o vs).rowIs b t n (fun j => if o ≤ j ∧ j < o + vs.length then vs.getD (j - o) (.bool false) else f j)
  | [], o, w, f, h => by
    show w.rowIs b t n _
    refine h.congr fun j hj => ?_
    rw [if_neg (by simp)]
  | v :: r, o, w, f, h => by
    show ((w.setCell ⟨b, o, none⟩ v).setCells b (o + 1) r).rowIs b t n _
    refine (rowIs_setCells r (o + 1) (h.set o v)).congr fun j hj => ?_
    by_cases e : j = o
    · subst e
      rw [if_neg (by omega)]
      simp
    · by_cases e2 : o + 1 ≤ j ∧ j < o + 1 + r.length
      · rw [if_pos e2, if_pos (by simp; omega)]
        obtain ⟨m, hm⟩ : ∃ m, j = o + 1 + m := ⟨j - (o + 1), by omega⟩
        subst hm
        rw [show o + 1 + m - (o + 1) = m by omega, show o + 1 + m - o = m + 1 by omega]
        rfl
      · rw [if_neg e2, if_neg e, if_neg (by simp only [List.length_cons]; omega)]

theorem size_setCells {b : Nat} : ∀ (vs : List Value) (o : Nat) (w : World), (w.setCells b o vs).heap.size = w.heap.size
  | [], _, _ => rfl
  | v :: r, o, w => by show ((w.setCell ⟨b, o, none⟩ v).setCells b (o + 1) r).heap.size = _; rw [size_setCells r]; exact size_setCell _ _ _
theorem below_setCells {B b : Nat} {a : World} (hb : B ≤ b) : ∀ (vs : List Value) (o : Nat) {w : World} (h : Below B a w), Below B a (w.setCells b o vs)
  | [], _, _, h => h
  | v :: r, o, w, h => below_setCells hb r (o + 1) (h.setCell hb v)
theorem heap_setCells {b k : Nat} (hk : k ≠ b) : ∀ (vs : List Value) (o : Nat) (w : World), (w.setCells b o vs).heap[k]? = w.heap[k]?
  | [], _, _ => rfl
  | v :: r, o, w => by show ((w.setCell ⟨b, o, none⟩ v).setCells b (o + 1) r).heap[k]? = _; rw [heap_setCells hk r]; exact Below.heap_setCell _ _ _ _ hk

theorem rowIs_there {w : World} {b t n : Nat} {f : Nat → Value} (h : w.rowIs b t n f) {o m : Nat} (hm : o + m ≤ n) : w.there b o m := fun j hj =>
  ⟨by rw [h.cell (by omega)]; rfl, h.frozen _⟩
theorem rowIs_range {w : World} {b t n : Nat} {f : Nat → Value} (h : w.rowIs b t n f) {o m : Nat} (hm : o + m ≤ n) : w.rangeAt b o ((List.range m).map fun j => f (o + j)) := fun j v hv => by
  have hj : j < m := by have := (List.getElem?_eq_some_iff.1 hv).1; simpa using this
  rw [List.getElem?_map, List.getElem?_range hj] at hv
  rw [h.cell (by omega)]
  exact hv
/-- A new row. -/
theorem rowIs_new (w : World) (c : Array Value) (t : TypeId) : (w.alloc (.cells c t)).rowIs w.heap.size t c.size (fun j => c.getD j (.bool false)) :=
  World.rowIs_alloc w c t _ (fun i hi => by simp [hi])
theorem rowIs_new2 (w : World) (o : Obj) (c : Array Value) (t : TypeId) : ((w.alloc o).alloc (.cells c t)).rowIs (w.heap.size + 1) t c.size (fun j => c.getD j (.bool false)) := by
  have h := rowIs_new (w.alloc o) c t
  have e : (w.alloc o).heap.size = w.heap.size + 1 := by simp
  rw [e] at h
  exact h
/-- A struct result that lies in a variable of its own. -/
theorem results_cell_range {P : Program} {fn : Func} {p : Tmp} {ty : TypeId} (h : fn.results = #[.cell p ty]) (tmps : Array Value) (w : World) (b : Nat) (cs : List Value) (d : TypeDesc)
    (hp : tmps.getD p undef = .pointer (some ⟨b, 0, none⟩)) (hc : w.rangeAt b 0 cs) (hu : P.underlying ty = some d) (hd : d.isRow = true) (hi : (P.info? ty).map (·.size) = some cs.length) :
    (results fn tmps).run P w = .ok (.agg cs.toArray) w := by
  have hp' : tmps[p]?.getD undef = .pointer (some ⟨b, 0, none⟩) := by simpa using hp
  simp [results, h, hp', asAddr, run_loadVar_mid w b 0 ty cs d hc hu hd hi]
end Go.Proofs.YtcgabodkegcpgaaDoor
