/- A queue of ints in a slice of one's own: what append does to it, and what lies in it. -/
import Derived.Test.YtcgabodkegcpgaaDoorRow
import Derived.Test.YtcgabodkegcpgaaDoorProg
import Derived.ArgAppend
namespace Go.Proofs.YtcgabodkegcpgaaDoor
open Go.RowKit
set_option linter.unusedVariables false

/-- v is a slice whose elements are xs, in a block from B on that is none of 'no'; its spare room may be written. -/
def Que (B : Nat) (no : Nat → Prop) (w : World) (v : Value) (xs : List Int) : Prop :=
  ∃ ao cap, v = .slice ao xs.length cap ∧ xs.length ≤ cap ∧ (ao = none → cap = 0) ∧ ∀ a, ao = some a → ∃ g o, a = ⟨g, o, none⟩ ∧ B ≤ g ∧ g < w.heap.size ∧ ¬ no g ∧
    (∀ i, i < xs.length → w.cell? ⟨g, o + i, none⟩ = some (.int .i64 (xs.getD i 0))) ∧ (∀ i, i < cap → (w.cell? ⟨g, o + i, none⟩).isSome = true ∧ w.frozen? ⟨g, o + i, none⟩ = false)

theorem Que.nil (B : Nat) (no : Nat → Prop) (w : World) : Que B no w (.slice none 0 0) [] := ⟨none, 0, rfl, Nat.le_refl _, fun _ => rfl, fun a h => by cases h⟩

/-- Where the queue's block is as it was, the queue is. -/
theorem Que.same {B : Nat} {no : Nat → Prop} {w w' : World} {v : Value} {xs : List Int} (h : Que B no w v xs) (hz : w.heap.size ≤ w'.heap.size) (hk : ∀ k, B ≤ k → k < w.heap.size → ¬ no k → w'.heap[k]? = w.heap[k]?) : Que B no w' v xs := by
  obtain ⟨ao, cap, hv, hl, hn, ha⟩ := h
  refine ⟨ao, cap, hv, hl, hn, fun a e => ?_⟩
  obtain ⟨g, o, rfl, hB, hg, hno, hc, hr⟩ := ha a e
  have hb := hk g hB hg hno
  exact ⟨g, o, rfl, hB, by omega, hno, fun i hi => (World.cell?_of_block (w := w) (a := ⟨g, o + i, none⟩) hb).trans (hc i hi), fun i hi => by
    rw [World.cell?_of_block (w := w) (a := ⟨g, o + i, none⟩) hb, World.frozen?_of_block (w := w) (a := ⟨g, o + i, none⟩) hb]; exact hr i hi⟩

theorem infoInt : (Tryd.prog.info? 3).map (fun i => (i.zero, i.size, i.bytes)) = some (some (.int .i64 0), 1, 8) := by kernel_rfl

theorem cell_setOne {w : World} {b o b' o' : Nat} {v : Value} (h : (w.cell? ⟨b', o', none⟩).isSome = true) : ((w.setCell ⟨b, o, none⟩ v).cell? ⟨b', o', none⟩).isSome = true := by
  obtain ⟨u, hu⟩ := Option.isSome_iff_exists.1 h
  by_cases e : b' = b ∧ o' = o
  · obtain ⟨rfl, rfl⟩ := e
    rw [cell_set_same w v hu]; rfl
  · rw [cell_set_other w v (by omega), hu]; rfl

theorem que_fresh {B : Nat} {no : Nat → Prop} {w : World} {xs : List Int} {zs : Array Value} {t : TypeId} {cap : Nat} (hB : B ≤ w.heap.size) (hno : ∀ k, no k → k < w.heap.size) (hl : xs.length ≤ cap) (hz : zs.size = cap - xs.length) :
    Que B no (w.alloc (.cells ((xs.map (Value.int .i64)).toArray ++ zs) t)) (.slice (some ⟨w.heap.size, 0, none⟩) xs.length cap) xs := by
  have hb := heap_alloc_new w (.cells ((xs.map (Value.int .i64)).toArray ++ zs) t)
  refine ⟨_, cap, rfl, hl, (fun h => by cases h), fun a e => ?_⟩
  cases e
  refine ⟨w.heap.size, 0, rfl, hB, by simp, fun h => absurd (hno _ h) (by omega), fun i hi => ?_, fun i hi => ?_⟩
  · rw [cell_of_row _ w.heap.size (0 + i) _ t (0, 0) hb, Nat.zero_add, Array.getElem?_append_left (by simpa using hi)]
    simp [hi]
  · rw [cell_of_row _ w.heap.size (0 + i) _ t (0, 0) hb]
    refine ⟨?_, frozen_of_row _ w.heap.size _ _ t hb⟩
    rw [Array.getElem?_eq_getElem (by simp; omega)]
    rfl

/-- append of one element: the queue is one longer; of the rest nothing turns but the queue's own block. -/
theorem append_q {B : Nat} {no : Nat → Prop} {w : World} {v : Value} {xs : List Int} (h : Que B no w v xs) (hB : B ≤ w.heap.size) (hno : ∀ k, no k → k < w.heap.size) (hl : xs.length < 4) (x : Int) (ty : TypeId) :
    ∃ v' w', (Builtin.append_ #[22, 22] ty #[v, .slice (some ⟨w.heap.size, 0, none⟩) 1 1]).run Tryd.prog (w.alloc (.cells #[.int .i64 x] 3)) = .ok v' w' ∧ Que B no w' v' (xs ++ [x]) ∧
      w'.os = w.os ∧ w'.tape = w.tape ∧ w'.output = w.output ∧ w.heap.size ≤ w'.heap.size ∧ ∀ k, k < w.heap.size → (k < B ∨ no k) → w'.heap[k]? = w.heap[k]? := by
  have hinfo := infoInt
  cases hq : Tryd.prog.info? 3 with
  | none => rw [hq] at hinfo; cases hinfo
  | some i =>
    rw [hq] at hinfo
    simp only [Option.map_some, Option.some.injEq, Prod.mk.injEq] at hinfo
    obtain ⟨hz, hs, hby⟩ := hinfo
    have hnew := heap_alloc_new w (.cells #[.int .i64 x] 3)
    have hnews : ∀ j u, ([Value.int .i64 x] : List Value)[j]? = some u → (w.alloc (.cells #[.int .i64 x] 3)).cell? ((⟨w.heap.size, 0, none⟩ : Addr).add j) = some u := fun j u hu => by
      rw [Addr.add_mid, Nat.zero_add, cell_of_row _ w.heap.size j _ _ (0, 0) hnew]
      simpa using hu
    have hsz : (w.alloc (.cells #[.int .i64 x] 3)).heap.size = w.heap.size + 1 := by simp
    obtain ⟨ao, cap, rfl, hle, hn, ha⟩ := h
    have hone : ∀ u ∈ ([Value.int .i64 x] : List Value), u.oneCell' = true := fun u hu => by simp at hu; subst hu; rfl
    cases ao with
    | none =>
      have hc0 := hn rfl
      subst hc0
      obtain rfl : xs = [] := List.length_eq_zero_iff.1 (by omega)
      have hr := run_append_nil (P := Tryd.prog) (w.alloc (.cells #[.int .i64 x] 3)) 22 ty 3 i _ Tryd.underlying22 hq hz ⟨w.heap.size, 0, none⟩ 1 1 [.int .i64 x] (by rw [hs]; rfl) hnews (by omega) (by omega) (by rw [hby]; omega)
      refine ⟨_, _, hr, ?_, rfl, rfl, rfl, by simp; omega, fun k hk _ => ?_⟩
      · have hge := grownCap_ge (w.alloc (.cells #[.int .i64 x] 3)) 1 0 3
        exact que_fresh (w := (w.alloc (.cells #[.int .i64 x] 3)).drew) (xs := [x]) (by show B ≤ (w.alloc _).heap.size; omega) (fun k hk => by have := hno k hk; show k < (w.alloc _).heap.size; omega) hge (by rw [size_zeroCells]; show _ * 1 = _; simp)
      · rw [Below.heap_alloc _ _ _ (by show k < (w.alloc _).heap.size; omega)]
        exact Below.heap_alloc _ _ _ hk
    | some a =>
      obtain ⟨g, o, rfl, hBg, hg, hng, hc, hroom⟩ := ha a rfl
      have hgne : g ≠ w.heap.size := by omega
      have hold : ∀ oo, (w.alloc (.cells #[.int .i64 x] 3)).cell? ⟨g, oo, none⟩ = w.cell? ⟨g, oo, none⟩ := fun oo => World.cell?_of_block (w := w) (a := ⟨g, oo, none⟩) (Below.heap_alloc _ _ _ hg)
      have holdf : ∀ oo, (w.alloc (.cells #[.int .i64 x] 3)).frozen? ⟨g, oo, none⟩ = w.frozen? ⟨g, oo, none⟩ := fun oo => World.frozen?_of_block (w := w) (a := ⟨g, oo, none⟩) (Below.heap_alloc _ _ _ hg)
      by_cases hfit : xs.length + 1 ≤ cap
      · have hr := run_append_room_cells (P := Tryd.prog) (w.alloc (.cells #[.int .i64 x] 3)) 22 ty 3 i Tryd.underlying22 hq g o xs.length cap ⟨w.heap.size, 0, none⟩ 1 1 [.int .i64 x] (by rw [hs]; rfl) hnews hone hfit
          (fun j hj => by have : j = 0 := by simpa using hj
                          subst this; rw [hs, Nat.mul_one, Nat.add_zero, hold]; exact (hroom _ (by omega)).1)
          (fun j hj => by have : j = 0 := by simpa using hj
                          subst this; rw [hs, Nat.mul_one, Nat.add_zero, holdf]; exact (hroom _ (by omega)).2)
        rw [hs, Nat.mul_one] at hr
        have hset : (w.alloc (.cells #[.int .i64 x] 3)).setCells g (o + xs.length) [.int .i64 x] = (w.alloc (.cells #[.int .i64 x] 3)).setCell ⟨g, o + xs.length, none⟩ (.int .i64 x) := rfl
        rw [hset] at hr
        refine ⟨_, _, hr, ?_, rfl, rfl, rfl, by rw [size_setCell]; omega, fun k hk hkk => ?_⟩
        · refine ⟨some ⟨g, o, none⟩, cap, by simp, by simp; omega, (fun h => by cases h), fun a e => ?_⟩
          cases e
          refine ⟨g, o, rfl, hBg, by rw [size_setCell]; omega, hng, fun i hi => ?_, fun i hi => ?_⟩
          · simp only [List.length_append, List.length_cons, List.length_nil] at hi
            by_cases e : i = xs.length
            · subst e
              obtain ⟨u, hu⟩ := Option.isSome_iff_exists.1 (hroom xs.length (by omega)).1
              rw [cell_set_same _ _ ((hold _).trans hu)]
              simp
            · rw [cell_set_other _ _ (by omega), hold, hc i (by omega), List.getD_eq_getElem?_getD, List.getD_eq_getElem?_getD, List.getElem?_append_left (by omega)]
          · refine ⟨cell_setOne (by rw [hold]; exact (hroom i hi).1), by rw [frozen_setCell, holdf]; exact (hroom i hi).2⟩
        · rw [Below.heap_setCell _ _ _ _ (by show k ≠ g; rcases hkk with h | h; omega; rintro rfl; exact hng h)]
          exact Below.heap_alloc _ _ _ hk
      · have hr := run_append_grow (P := Tryd.prog) (w.alloc (.cells #[.int .i64 x] 3)) 22 ty 3 i _ Tryd.underlying22 hq hz ⟨g, o, none⟩ xs.length cap (xs.map (Value.int .i64)) (by rw [hs]; simp)
          (fun j u hu => by
            have hj : j < xs.length := by have := (List.getElem?_eq_some_iff.1 hu).1; simpa using this
            rw [Addr.add_mid, hold, hc j hj, ← hu]; simp [hj]) ⟨w.heap.size, 0, none⟩ 1 1 [.int .i64 x] (by rw [hs]; rfl) hnews (by omega) (by omega) (by rw [hby]; unfold Builtin.nextslicecap; split; omega; split; omega; omega)
        refine ⟨_, _, hr, ?_, rfl, rfl, rfl, by simp; omega, fun k hk _ => ?_⟩
        · have hge := grownCap_ge (w.alloc (.cells #[.int .i64 x] 3)) (xs.length + 1) cap 3
          have e1 : (xs.map (Value.int .i64)).toArray ++ [Value.int .i64 x].toArray = ((xs ++ [x]).map (Value.int .i64)).toArray := by simp
          rw [e1]
          have e2 : xs.length + 1 = (xs ++ [x]).length := by simp
          rw [e2] at hge ⊢
          exact que_fresh (w := (w.alloc (.cells #[.int .i64 x] 3)).drew) (by show B ≤ (w.alloc _).heap.size; omega) (fun k hk => by have := hno k hk; show k < (w.alloc _).heap.size; omega) hge (by rw [size_zeroCells]; show _ * 1 = _; omega)
        · rw [Below.heap_alloc _ _ _ (by show k < (w.alloc _).heap.size; omega)]
          exact Below.heap_alloc _ _ _ hk
/-- append, for the walk, by its run. -/
theorem wpList_append_run {P : Program} {w w' : World} {ops : Array Oper} {rest : List Oper} {o : Oper} {a : Act} {Q : Exit → Act → World → Prop} (hg : o.guard = none) (s x : Operand) (t : TypeId)
    (hop : o.op = Op.call { callee := Callee.builtin Builtin.append, args := #[s, x], argTypes := #[t, t] }) (v u v' : Value) (hs : a.eval s = v) (hx : a.eval x = u)
    (hrun : (Builtin.append_ #[t, t] o.type #[v, u]).run P w = .ok v' w') (h : wpList P ops Q rest (a.put o.dst v') w') : wpList P ops Q (o :: rest) a w := by
  refine wpList_plain hg fun K hK' => ?_
  unfold Oper.wp
  simp [execOp, hop, resolve, invoke, builtin, hs, hx, hrun, Result.andThen]
  exact hK' _ _ h
end Go.Proofs.YtcgabodkegcpgaaDoor
