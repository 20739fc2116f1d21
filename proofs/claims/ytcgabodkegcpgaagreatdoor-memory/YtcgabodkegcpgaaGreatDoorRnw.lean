/- The words that the reference's New makes. -/
import Derived.Test.YtcgabodkegcpgaaGreatDoorRfd
import Derived.Test.YtcgabodkegcpgaaGreatDoorRf4
import Derived.Laws.AppendOwn
import Derived.Deep.AppendLies
import Derived.Test.YtcgabodkegcpgaaGreatDoorLve
namespace Go.Proofs.YtcgabodkegcpgaaGreatDoor
open Go.RowKit
set_option linter.unusedVariables false
set_option linter.unusedSimpArgs false

theorem infoWords : (Tryz.prog.info? 69).map (fun i => (i.zero, i.size, i.bytes)) = some (some (.agg #[.int .i64 0, .int .i64 0, .int .i64 0, .int .i64 0]), 4, 32) := by kernel_rfl
theorem makeWords (n : Nat) (hn : n ≤ 32) (w : World) : ∃ C : Array Value, C.size = n * 4 ∧ (∀ j, j < n * 4 → C[j]? = some (.int .i64 0)) ∧ (Instr.makeSlice 101 (.int .i64 n) (.int .i64 n)).run Tryz.prog w = .ok (.slice (some ⟨w.heap.size, 0, none⟩) n n) (w.alloc (.cells C 69)) := by
  have hinfo := infoWords
  cases hq : Tryz.prog.info? 69 with
  | none => rw [hq] at hinfo; cases hinfo
  | some i =>
    rw [hq] at hinfo
    simp only [Option.map_some, Option.some.injEq, Prod.mk.injEq] at hinfo
    obtain ⟨hz, hs, hb⟩ := hinfo
    have := run_make (P := Tryz.prog) w 101 69 i _ Tryz.underlying101 hq hz .i64 .i64 n n (by omega) (by omega) (by rw [hb]; omega) (by omega)
    rw [hs] at this
    refine ⟨_, size_madeCells _ _, fun j hj => ?_, this⟩
    have e : (madeCells (Value.cells (.agg #[.int .i64 0, .int .i64 0, .int .i64 0, .int .i64 0])) (n * 4))[j]? = some ((#[Value.int .i64 0, .int .i64 0, .int .i64 0, .int .i64 0] : Array Value)[j % 4]!) := by
      unfold madeCells
      rw [Array.getElem?_map, Array.getElem?_range, if_pos (by omega)]
      rfl
    rw [e]
    have h4 : j % 4 < 4 := Nat.mod_lt _ (by omega)
    generalize j % 4 = m at h4
    obtain rfl | rfl | rfl | rfl : m = 0 ∨ m = 1 ∨ m = 2 ∨ m = 3 := by omega
    all_goals rfl
end Go.Proofs.YtcgabodkegcpgaaGreatDoor
namespace Go.Proofs.YtcgabodkegcpgaaGreatDoor
open Go.RowKit
set_option linter.unusedVariables false
set_option linter.unusedSimpArgs false
attribute [local go_sem ↓] Go.wp_at_zero Go.wp_at_succ

/-- k processes that are none. -/
def nones : Nat → List Value
  | 0 => []
  | k + 1 => nones k ++ procCells 0 (-1) (-1) 0
theorem nones_len : ∀ k, (nones k).length = k * 12
  | 0 => rfl
  | k + 1 => by unfold nones; rw [List.length_append, nones_len k]; show k * 12 + 12 = _; omega
/-- What stands while the lists grow: the settings' block, the words, the struct, the processes. -/
structure Grow (w w' : World) (nF nS nD k : Nat) (v p q s : Value) : Prop where
  bel : Below w.heap.size w w'
  size : w.heap.size + 3 ≤ w'.heap.size
  cfg : w'.heap[w.heap.size]? = some (.cells #[.int .i64 nF, .int .i64 nS, .int .i64 nD] 23)
  wrd : w'.rowIs (w.heap.size + 1) 69 (nF * 4) (fun _ => .int .i64 0)
  str : ∃ f, w'.rowIs (w.heap.size + 1 + 1) 105 5 f ∧ f 0 = .slice (some ⟨w.heap.size + 1, 0, none⟩) nF nF ∧ f 1 = v ∧ f 2 = p ∧ f 3 = q ∧ f 4 = s
  own : w'.ownsRow (w.heap.size + 3) 107 12 v k (nones k)
theorem own_some {w : World} {b : Nat} {t : TypeId} {m : Nat} {v : Value} {n : Nat} {xs : List Value} (h : w.ownsRow b t m v n xs) (hn : 0 < n) : ∃ g cap, v = .slice (some ⟨g, 0, none⟩) n cap ∧ b ≤ g := by
  rcases h.2 with ⟨_, h0⟩ | ⟨g, cap, cur, hv, hb, _⟩
  · omega
  · exact ⟨g, cap, hv, hb⟩
/-- A list has grown behind a new block, and its place in the struct was written. -/
theorem Grow.grown {w w' w2 : World} {nF nS nD k : Nat} {v p q s u : Value} {o : Obj} (G : Grow w w' nF nS nD k v p q s) (g2 : (w'.alloc o).grownBy w2 v.ownBlock) (o2 : w2.ownsRow (w.heap.size + 3) 107 12 u (k + 1) (nones k ++ procCells 0 (-1) (-1) 0)) : Grow w (w2.setCell ⟨w.heap.size + 1 + 1, 1, none⟩ u) nF nS nD (k + 1) u p q s := by
  have sz := G.size
  have hb : ∀ i, i < w.heap.size + 3 → w2.heap[i]? = w'.heap[i]? := fun i hi => by
    rw [g2.block i (by simp; omega) (fun e => by have := G.own.lt i e.symm; omega)]
    exact Below.heap_alloc w' o i (by omega)
  have hz : w'.heap.size ≤ w2.heap.size := by have := g2.size; simp at this; omega
  have hs : ∀ i, i ≠ w.heap.size + 1 + 1 → (w2.setCell ⟨w.heap.size + 1 + 1, 1, none⟩ u).heap[i]? = w2.heap[i]? := fun i hi => Below.heap_setCell w2 _ u i (by simpa using hi)
  obtain ⟨f, r1, f0, f1, f2, f3, f4⟩ := G.str
  refine ⟨⟨?_, ?_, ?_, ?_, fun i hi => ?_⟩, ?_, ?_, ?_, ?_, ?_⟩
  · exact g2.os.trans G.bel.os
  · exact g2.tape.trans G.bel.tape
  · exact g2.output.trans G.bel.output
  · rw [size_setCell]; have := G.bel.size; omega
  · rw [hs i (by omega), hb i (by omega)]; exact G.bel.block i hi
  · rw [size_setCell]; omega
  · rw [hs _ (by omega), hb _ (by omega)]; exact G.cfg
  · exact (G.wrd.of_block (hb _ (by omega))).of_block (hs _ (by omega))
  · exact ⟨_, (r1.of_block (hb _ (by omega))).set 1 u, by simp [f0], by simp, by simp [f2], by simp [f3], by simp [f4]⟩
  · refine o2.kept (row := some (w.heap.size + 1 + 1)) ⟨rfl, rfl, rfl, by rw [size_setCell]; exact Nat.le_refl _, fun i hi hne => hs i (fun e => hne (by rw [e]))⟩ (Or.inr fun e => ?_)
    have := o2.lt _ e
    omega
theorem Grow.rowed {w w' w2 : World} {nF nS nD k : Nat} {v p q s : Value} {o : Obj} (G : Grow w w' nF nS nD k v p q s) (g2 : (w'.alloc o).grownBy w2 v.ownBlock) : w2.cell? ⟨w.heap.size + 1 + 1, 1, none⟩ = some v ∧ w2.frozen? ⟨w.heap.size + 1 + 1, 1, none⟩ = false := by
  have sz := G.size
  have hb : w2.heap[w.heap.size + 1 + 1]? = w'.heap[w.heap.size + 1 + 1]? := by
    rw [g2.block (w.heap.size + 1 + 1) (by simp; omega) (fun e => by have := G.own.lt (w.heap.size + 1 + 1) e.symm; omega)]
    exact Below.heap_alloc w' o _ (by omega)
  obtain ⟨f, r1, f0, f1, f2, f3, f4⟩ := G.str
  have r2 := r1.of_block hb
  exact ⟨by rw [← f1]; exact r2.cell (by omega), r2.frozen 1⟩
theorem none_news (wr : World) (j : Nat) (u : Value) (hu : (procCells 0 (-1) (-1) 0)[j]? = some u) : (wr.alloc (.cells (procCells 0 (-1) (-1) 0).toArray 107)).cell? ((⟨wr.heap.size, 0, none⟩ : Addr).add j) = some u := by
  have hb := heap_alloc_new wr (.cells (procCells 0 (-1) (-1) 0).toArray 107)
  rw [Addr.add_mid, Nat.zero_add, cell_of_row _ _ j _ _ _ hb]
  simpa using hu
theorem none_one : ∀ u ∈ procCells 0 (-1) (-1) 0, u.oneCell' = true := by
  have h : (procCells 0 (-1) (-1) 0).toArray.all (·.oneCell') = true := by kernel_rfl
  exact fun u hu => Array.all_eq_true_iff_forall_mem.1 h u (by simpa using hu)
theorem Grow.start (w : World) (nF nS nD : Nat) (C : Array Value) (hC : C.size = nF * 4) (hz : ∀ j, j < nF * 4 → C[j]? = some (.int .i64 0)) :
    Grow w (((w.alloc (.cells #[.int .i64 nF, .int .i64 nS, .int .i64 nD] 23)).alloc (.cells C 69)).alloc (.cells #[.slice (some ⟨w.heap.size + 1, 0, none⟩) nF nF, .slice none 0 0, .slice none 0 0, .slice none 0 0, .slice none 0 0] 105)) nF nS nD 0 (.slice none 0 0) (.slice none 0 0) (.slice none 0 0) (.slice none 0 0) := by
  refine ⟨(((Below.refl _ _).alloc (Nat.le_refl _) _).alloc (by simp) _).alloc (by simp; omega) _, by simp, ?_, ?_, ?_, World.ownsRow_nil _ _ _ _⟩
  · rw [Below.heap_alloc _ _ _ (by simp; omega), Below.heap_alloc _ _ _ (by simp)]; exact heap_alloc_new w _
  · have h := (rowIs_new2 w (.cells #[.int .i64 nF, .int .i64 nS, .int .i64 nD] 23) C 69).alloc (.cells #[.slice (some ⟨w.heap.size + 1, 0, none⟩) nF nF, .slice none 0 0, .slice none 0 0, .slice none 0 0, .slice none 0 0] 105)
    rw [hC] at h
    refine h.congr fun j hj => ?_
    rw [Array.getD_eq_getD_getElem?, hz j hj]; rfl
  · have h := rowIs_new ((w.alloc (.cells #[.int .i64 nF, .int .i64 nS, .int .i64 nD] 23)).alloc (.cells C 69)) #[.slice (some ⟨w.heap.size + 1, 0, none⟩) nF nF, .slice none 0 0, .slice none 0 0, .slice none 0 0, .slice none 0 0] 105
    have e : ((w.alloc (.cells #[.int .i64 nF, .int .i64 nS, .int .i64 nD] 23)).alloc (.cells C 69)).heap.size = w.heap.size + 1 + 1 := by simp
    rw [e] at h
    exact ⟨_, h, rfl, rfl, rfl, rfl, rfl⟩
theorem infoProc : (Tryz.prog.info? 107).map (fun i => (i.zero, i.size, i.bytes)) = some (some (.agg (procCells 0 0 0 0).toArray), 12, 96) := by kernel_rfl
theorem Grow.cfg1 {w w' : World} {nF nS nD k : Nat} {v p q s : Value} (G : Grow w w' nF nS nD k v p q s) : w'.cell? ⟨w.heap.size, 1, none⟩ = some (.int .i64 nS) ∧ w'.cell? ⟨w.heap.size, 2, none⟩ = some (.int .i64 nD) := by
  have h := G.cfg
  unfold World.cell?
  simp [h]
end Go.Proofs.YtcgabodkegcpgaaGreatDoor
namespace Go.Proofs.YtcgabodkegcpgaaGreatDoor
open Go.RowKit
set_option linter.unusedVariables false
set_option linter.unusedSimpArgs false

def gTy (c : Nat) : TypeId := if c = 1 then 107 else 3
def gSz (c : Nat) : Nat := if c = 1 then 12 else 1
def up {α : Type} (f : Nat → α) (c : Nat) (v : α) : Nat → α := fun i => if i = c then v else f i
theorem up_same {α : Type} (f : Nat → α) (c : Nat) (v : α) : up f c v c = v := by simp [up]
theorem up_other {α : Type} (f : Nat → α) {c i : Nat} (v : α) (h : i ≠ c) : up f c v i = f i := by simp [up, h]
/-- Settings' block, words, struct; four lists (1: processes; 2, 3, 4: rings, heads, holds) in blocks of their own. -/
structure Gro (w w' : World) (nF nS nD : Nat) (V : Nat → Value) (N : Nat → Nat) (X : Nat → List Value) : Prop where
  bel : Below w.heap.size w w'
  size : w.heap.size + 3 ≤ w'.heap.size
  cfg : w'.heap[w.heap.size]? = some (.cells #[.int .i64 nF, .int .i64 nS, .int .i64 nD] 23)
  wrd : w'.rowIs (w.heap.size + 1) 69 (nF * 4) (fun _ => .int .i64 0)
  str : w'.rowIs (w.heap.size + 1 + 1) 105 5 (fun c => if c = 0 then .slice (some ⟨w.heap.size + 1, 0, none⟩) nF nF else V c)
  own : ∀ c, 1 ≤ c → c ≤ 4 → w'.ownsRow (w.heap.size + 3) (gTy c) (gSz c) (V c) (N c) (X c)
  apart : ∀ c c', 1 ≤ c → c ≤ 4 → 1 ≤ c' → c' ≤ 4 → c ≠ c' → (V c).ownBlock = none ∨ (V c).ownBlock ≠ (V c').ownBlock
section
variable {w w' w2 : World} {nF nS nD : Nat} {V : Nat → Value} {N : Nat → Nat} {X : Nat → List Value}
theorem Gro.far (G : Gro w w' nF nS nD V N X) {c : Nat} (h1 : 1 ≤ c) (h4 : c ≤ 4) {o : Obj} (g2 : (w'.alloc o).grownBy w2 (V c).ownBlock) (i : Nat) (hi : i < w.heap.size + 3) : w2.heap[i]? = w'.heap[i]? := by
  have sz := G.size
  rw [g2.block i (by simp; omega) (fun e => by have := (G.own c h1 h4).lt i e.symm; omega)]
  exact Below.heap_alloc w' o i (by omega)
theorem Gro.rowed (G : Gro w w' nF nS nD V N X) {c : Nat} (h1 : 1 ≤ c) (h4 : c ≤ 4) {o : Obj} (g2 : (w'.alloc o).grownBy w2 (V c).ownBlock) : w2.rowIs (w.heap.size + 1 + 1) 105 5 (fun c => if c = 0 then .slice (some ⟨w.heap.size + 1, 0, none⟩) nF nF else V c) :=
  G.str.of_block (G.far h1 h4 g2 _ (by omega))
theorem Gro.grown (G : Gro w w' nF nS nD V N X) {c : Nat} (h1 : 1 ≤ c) (h4 : c ≤ 4) {o : Obj} (g2 : (w'.alloc o).grownBy w2 (V c).ownBlock) {g n cap : Nat} {xs : List Value} (o2 : w2.ownsRow (w.heap.size + 3) (gTy c) (gSz c) (.slice (some ⟨g, 0, none⟩) n cap) n xs) (hl : (V c).ownBlock = some g ∨ g = w'.heap.size + 1) :
    Gro w (w2.setCell ⟨w.heap.size + 1 + 1, c, none⟩ (.slice (some ⟨g, 0, none⟩) n cap)) nF nS nD (up V c (.slice (some ⟨g, 0, none⟩) n cap)) (up N c n) (up X c xs) := by
  have sz := G.size
  generalize hu : Value.slice (some ⟨g, 0, none⟩) n cap = u at *
  have hub : u.ownBlock = some g := by rw [← hu]; rfl
  have hb := G.far h1 h4 g2
  have hz : w'.heap.size ≤ w2.heap.size := by have := g2.size; simp at this; omega
  have hs : ∀ i, i ≠ w.heap.size + 1 + 1 → (w2.setCell ⟨w.heap.size + 1 + 1, c, none⟩ u).heap[i]? = w2.heap[i]? := fun i hi => Below.heap_setCell w2 _ u i (by simpa using hi)
  have gs : w2.grownBy (w2.setCell ⟨w.heap.size + 1 + 1, c, none⟩ u) (some (w.heap.size + 1 + 1)) := ⟨rfl, rfl, rfl, by rw [size_setCell]; exact Nat.le_refl _, fun i hi hne => hs i (fun e => hne (by rw [e]))⟩
  refine ⟨⟨?_, ?_, ?_, ?_, fun i hi => ?_⟩, ?_, ?_, ?_, ?_, ?_, ?_⟩
  · exact g2.os.trans G.bel.os
  · exact g2.tape.trans G.bel.tape
  · exact g2.output.trans G.bel.output
  · rw [size_setCell]; have := G.bel.size; omega
  · rw [hs i (by omega), hb i (by omega)]; exact G.bel.block i hi
  · rw [size_setCell]; omega
  · rw [hs _ (by omega), hb _ (by omega)]; exact G.cfg
  · exact (G.wrd.of_block (hb _ (by omega))).of_block (hs _ (by omega))
  · refine ((G.str.of_block (hb _ (by omega))).set c u).congr fun j hj => ?_
    unfold up
    by_cases e : j = c
    · subst e; simp; omega
    · simp [e]
  · intro a ha ha'
    by_cases e : a = c
    · subst e
      rw [up_same, up_same, up_same]
      exact o2.kept gs (Or.inr fun e => by have := o2.lt _ e; omega)
    · rw [up_other _ _ e, up_other _ _ e, up_other _ _ e]
      have oa := ((G.own a ha ha').alloc o).kept g2 (G.apart a c ha ha' h1 h4 e)
      exact oa.kept gs (Or.inr fun e => by have := oa.lt _ e; omega)
  · intro a b ha ha' hb1 hb' hab
    have lt : ∀ d, 1 ≤ d → d ≤ 4 → ∀ k, (V d).ownBlock = some k → k < w'.heap.size := fun d h h' k hk => ((G.own d h h').lt k hk).2
    by_cases ea : a = c
    · subst ea
      rw [up_same, up_other _ _ (Ne.symm hab), hub]
      right
      intro e
      rcases hl with hl | hl
      · rcases G.apart a b ha ha' hb1 hb' hab with h | h
        · rw [h] at hl; cases hl
        · exact h (hl.trans e)
      · have := lt b hb1 hb' g e.symm; omega
    · rw [up_other _ _ ea]
      by_cases eb : b = c
      · subst eb
        rw [up_same, hub]
        rcases G.apart a b ha ha' hb1 hb' hab with h | h
        · exact Or.inl h
        · rcases hl with hl | hl
          · right; rw [← hl]; exact h
          · right; intro e; have := lt a ha ha' g e; omega
      · rw [up_other _ _ eb]; exact G.apart a b ha ha' hb1 hb' hab
theorem Gro.cell (G : Gro w w' nF nS nD V N X) {c : Nat} (h1 : 1 ≤ c) (h4 : c ≤ 4) : w'.cell? ⟨w.heap.size + 1 + 1, c, none⟩ = some (V c) := by
  have := G.str.cell (show c < 5 by omega)
  rwa [if_neg (by omega)] at this
theorem Gro.cfg1 (G : Gro w w' nF nS nD V N X) : w'.cell? ⟨w.heap.size, 1, none⟩ = some (.int .i64 nS) ∧ w'.cell? ⟨w.heap.size, 2, none⟩ = some (.int .i64 nD) := by
  have h := G.cfg
  unfold World.cell?
  simp [h]
theorem Gro.same (G : Gro w w' nF nS nD V N X) {V' : Nat → Value} {N' : Nat → Nat} {X' : Nat → List Value} (hV : ∀ c, 1 ≤ c → c ≤ 4 → V' c = V c) (hN : ∀ c, 1 ≤ c → c ≤ 4 → N' c = N c) (hX : ∀ c, 1 ≤ c → c ≤ 4 → X' c = X c) : Gro w w' nF nS nD V' N' X' := by
  refine ⟨G.bel, G.size, G.cfg, G.wrd, G.str.congr fun j hj => ?_, fun c h1 h4 => ?_, fun a b ha ha' hb hb' h => ?_⟩
  · by_cases e : j = 0
    · simp [e]
    · simp [e, hV j (by omega) (by omega)]
  · rw [hV c h1 h4, hN c h1 h4, hX c h1 h4]; exact G.own c h1 h4
  · rw [hV a ha ha', hV b hb hb']; exact G.apart a b ha ha' hb hb' h
end
theorem Grow.gro {w w' : World} {nF nS nD : Nat} (G : Grow w w' nF nS nD 0 (.slice none 0 0) (.slice none 0 0) (.slice none 0 0) (.slice none 0 0)) : Gro w w' nF nS nD (fun _ => .slice none 0 0) (fun _ => 0) (fun _ => []) := by
  obtain ⟨f, r, f0, f1, f2, f3, f4⟩ := G.str
  refine ⟨G.bel, G.size, G.cfg, G.wrd, r.congr fun j hj => ?_, fun c _ _ => World.ownsRow_nil _ _ _ _, fun _ _ _ _ _ _ _ => Or.inl rfl⟩
  obtain rfl | rfl | rfl | rfl | rfl : j = 0 ∨ j = 1 ∨ j = 2 ∨ j = 3 ∨ j = 4 := by omega
  · exact f0
  · exact f1
  · exact f2
  · exact f3
  · exact f4
theorem nones_get : ∀ (k i c : Nat), i < k → c < 12 → (nones k)[i * 12 + c]? = some (.int .i64 (if c = 1 ∨ c = 2 then -1 else 0))
  | 0, i, c, h, _ => by omega
  | k + 1, i, c, h, hc => by
    unfold nones
    by_cases e : i < k
    · rw [List.getElem?_append_left (by rw [nones_len]; omega)]; exact nones_get k i c e hc
    · obtain rfl : i = k := by omega
      rw [List.getElem?_append_right (by rw [nones_len]; omega), nones_len, show i * 12 + c - i * 12 = c by omega]
      obtain rfl | rfl | rfl | rfl | rfl | rfl | rfl | rfl | rfl | rfl | rfl | rfl : c = 0 ∨ c = 1 ∨ c = 2 ∨ c = 3 ∨ c = 4 ∨ c = 5 ∨ c = 6 ∨ c = 7 ∨ c = 8 ∨ c = 9 ∨ c = 10 ∨ c = 11 := by omega
      all_goals rfl
/-- What the pipes' lists hold while they grow. -/
def pipes (k : Nat) (c : Nat) : List Value := List.replicate k (.int .i64 (if c = 2 then -1 else 0))
theorem pipes_succ (k c : Nat) : pipes (k + 1) c = pipes k c ++ [.int .i64 (if c = 2 then -1 else 0)] := List.replicate_succ'

theorem rel_new (nF nS nD : Nat) (r : Rk) (hf : r.nF = nF) (hs : r.nS = nS) (hd : r.nD = nD) (hP : ∀ i c, i < nS → c < 12 → r.P i c = if c = 1 ∨ c = 2 then -1 else 0) (hR : ∀ e q, e < nD → q < 3 → r.R e q = if q = 0 then -1 else 0) : Rel (kNew nF nS nD) ((r.setP 0 0 2).setP 0 2 0) := by
  refine ⟨hf, hs, hd, fun i c hi hc => ?_, fun g j hg hj hk => ?_, fun e q he hq => ?_⟩
  · have e0 : ((r.setP 0 0 2).setP 0 2 0).P i c = if i = 0 ∧ c = 2 then 0 else if i = 0 ∧ c = 0 then 2 else r.P i c := by
      show upd (upd r.P 0 0 2) 0 2 0 i c = _
      unfold upd
      rfl
    rw [e0, hP i c hi hc]
    unfold pNum
    by_cases h3 : c < 3
    · rw [if_pos h3, new_S]
      obtain rfl | rfl | rfl : c = 0 ∨ c = 1 ∨ c = 2 := by omega
      all_goals simp
    · rw [if_neg h3, if_neg (by omega), if_neg (by omega), if_neg (by omega)]
      by_cases h : c = 3
      · rw [if_pos h, new_S]; simp
      · rw [if_neg h]
        have key : ∀ j, j ≠ 0 → j ≠ 2 → j ≠ 19 → (kNew nF nS nD).S i j = -1 := fun j a b d => by rw [new_S, if_neg (by omega), if_neg (by omega), if_neg (by omega)]
        by_cases h8 : c < 8
        · rw [if_pos h8, show (kNew nF nS nD).page i (c - 4) = -1 from key _ (by omega) (by omega) (by omega), encP_none]
        · rw [if_neg h8, show (kNew nF nS nD).file i (c - 8) = -1 from key _ (by omega) (by omega) (by omega), encP_none]
  · exfalso
    rw [new_F] at hk
    split at hk <;> simp at hk
  · rw [show ((r.setP 0 0 2).setP 0 2 0).R e q = r.R e q from rfl, hR e q he hq, new_D]
theorem pipes_get (k c j : Nat) (h : j < k) : (pipes k c)[j]? = some (.int .i64 (if c = 2 then -1 else 0)) := by unfold pipes; rw [List.getElem?_replicate, if_pos h]
theorem Gro.done {w w' : World} {nF nS nD : Nat} {V : Nat → Value} {N : Nat → Nat} {X : Nat → List Value} (G : Gro w w' nF nS nD V N X) (h1 : 1 ≤ nS) (hF : nF ≤ 32) (hS : nS ≤ 6) (hD : nD ≤ 4) (n1 : N 1 = nS) (x1 : X 1 = nones nS) (hc : ∀ c, 2 ≤ c → c ≤ 4 → N c = nD ∧ X c = pipes nD c) :
    ∃ B r cap, B.b = w.heap.size + 1 + 1 ∧ V 1 = .slice (some ⟨B.bp, 0, none⟩) nS cap ∧ RMem w' B r ∧ r.nS = nS ∧ r.P 0 0 = 0 ∧ r.P 0 2 = -1 ∧ Rel (kNew nF nS nD) ((r.setP 0 0 2).setP 0 2 0) ∧ w.heap.size ≤ B.bw ∧ w.heap.size ≤ B.bp ∧ ∀ q, w.heap.size ≤ B.bq q := by
  have sz := G.size
  have o1 := G.own 1 (by omega) (by omega)
  rw [n1, x1] at o1
  obtain ⟨g, cap, hv, hg, hgl⟩ := o1.form (by omega)
  have H : ∀ q, ∃ t : Option Addr × Nat × Nat, q < 3 → V (2 + q) = .slice t.1 nD t.2.2 ∧ w.heap.size + 3 ≤ t.2.1 ∧ (0 < nD → t.1 = some ⟨t.2.1, 0, none⟩ ∧ t.2.1 < w'.heap.size) ∧ (nD = 0 → t.2.1 = w'.heap.size + q) := fun q => by
    by_cases hq : q < 3
    · have oq := G.own (2 + q) (by omega) (by omega)
      rw [(hc (2 + q) (by omega) (by omega)).1] at oq
      by_cases hd : 0 < nD
      · obtain ⟨b, c, e, hb, hl⟩ := oq.form hd
        exact ⟨(some ⟨b, 0, none⟩, b, c), fun _ => ⟨e, hb, fun _ => ⟨rfl, hl⟩, fun h => by omega⟩⟩
      · obtain rfl : nD = 0 := by omega
        rcases oq.2 with ⟨e, _⟩ | ⟨b, c, cur, e, _⟩
        · exact ⟨(none, w'.heap.size + q, 0), fun _ => ⟨e, by show _ ≤ w'.heap.size + q; omega, fun h => by omega, fun _ => rfl⟩⟩
        · exact ⟨(some ⟨b, 0, none⟩, w'.heap.size + q, c), fun _ => ⟨e, by show _ ≤ w'.heap.size + q; omega, fun h => by omega, fun _ => rfl⟩⟩
    · exact ⟨(none, 0, 0), fun h => absurd h hq⟩
  obtain ⟨T, hT⟩ := Classical.axiomOfChoice H
  have far : ∀ q q', q < 3 → q' < 3 → q ≠ q' → (T q).2.1 ≠ (T q').2.1 := fun q q' hq hq' hne e => by
    obtain ⟨a1, a2, a3, a4⟩ := hT q hq
    obtain ⟨b1, b2, b3, b4⟩ := hT q' hq'
    by_cases hd : 0 < nD
    · have hA := G.apart (2 + q) (2 + q') (by omega) (by omega) (by omega) (by omega) (by omega)
      rw [a1, b1, (a3 hd).1, (b3 hd).1] at hA
      rcases hA with h | h
      · cases h
      · exact h (by show some (T q).2.1 = some (T q').2.1; rw [e])
    · have := a4 (by omega); have := b4 (by omega); omega
  have farP : ∀ q, q < 3 → g ≠ (T q).2.1 := fun q hq e => by
    obtain ⟨a1, a2, a3, a4⟩ := hT q hq
    by_cases hd : 0 < nD
    · have hA := G.apart 1 (2 + q) (by omega) (by omega) (by omega) (by omega) (by omega)
      rw [hv, a1, (a3 hd).1] at hA
      rcases hA with h | h
      · cases h
      · exact h (by show some g = some (T q).2.1; rw [e])
    · have := a4 (by omega); omega
  rw [hv] at o1
  refine ⟨⟨w.heap.size + 1 + 1, w.heap.size + 1, g, fun q => if q < 3 then (T q).2.1 else w.heap.size, nF, cap, fun q => (T q).1, fun q => (T q).2.2⟩, ⟨nF, nS, nD, fun _ _ => 0, fun _ c => if c = 1 ∨ c = 2 then -1 else 0, fun _ q => if q = 0 then -1 else 0⟩, cap, rfl, hv, ?_, rfl, rfl, rfl, rel_new nF nS nD _ rfl rfl rfl (fun _ _ _ _ => rfl) (fun _ _ _ _ => rfl), by show _ ≤ w.heap.size + 1; omega, by show _ ≤ g; omega, fun q => ?_⟩
  · refine ⟨G.str.cell (show 0 < 5 by omega), ?_, fun q hq => ?_, fun q hq hd => ?_, fun f j hf hj => ?_, fun i c hi hcc => ?_, fun d q hd hq => ?_, fun o => G.wrd.frozen o, fun o => o1.frozenAt o, fun q o hq hd => ?_, by show w.heap.size + 1 + 1 < _; omega, by show w.heap.size + 1 < _; omega, hgl, fun q hq hd => ?_, ?_, ?_, fun q hq => ?_, ?_, fun q hq => ?_, fun q hq => ?_, fun q q' hq hq' hne => ?_, hF, hS, hD⟩
    · show w'.cell? ⟨w.heap.size + 1 + 1, 1, none⟩ = _; rw [G.cell (by omega) (by omega), hv]
    · show w'.cell? ⟨w.heap.size + 1 + 1, 2 + q, none⟩ = _; rw [G.cell (by omega) (by omega), (hT q hq).1]
    · show (T q).1 = some ⟨if q < 3 then _ else _, 0, none⟩
      rw [if_pos hq]; exact ((hT q hq).2.2.1 hd).1
    · have hf' : f < nF := hf
      exact G.wrd.cell (show f * 4 + j < nF * 4 by omega)
    · have hi' : i < nS := hi
      show w'.cell? ⟨g, i * 12 + c, none⟩ = _
      rw [o1.cellAt (i * 12 + c) (by show _ < nS * 12; omega)]
      exact nones_get nS i c hi' hcc
    · have hd' : d < nD := hd
      obtain ⟨a1, a2, a3, a4⟩ := hT q hq
      have oq := G.own (2 + q) (by omega) (by omega)
      rw [(hc (2 + q) (by omega) (by omega)).1, (hc (2 + q) (by omega) (by omega)).2, a1, (a3 (by omega)).1] at oq
      show w'.cell? ⟨if q < 3 then _ else _, d, none⟩ = _
      rw [if_pos hq, oq.cellAt d (by rw [show gSz (2 + q) = 1 from if_neg (by omega)]; omega), pipes_get _ _ _ hd']
      by_cases e : q = 0
      · subst e; rfl
      · rw [if_neg (by omega)]; show _ = some (Value.int .i64 (if q = 0 then -1 else 0)); rw [if_neg e]
    · obtain ⟨a1, a2, a3, a4⟩ := hT q hq
      have oq := G.own (2 + q) (by omega) (by omega)
      rw [(hc (2 + q) (by omega) (by omega)).1, a1, (a3 hd).1] at oq
      show w'.frozen? ⟨if q < 3 then _ else _, o, none⟩ = _
      rw [if_pos hq]; exact oq.frozenAt o
    · show (if q < 3 then _ else _) < _
      rw [if_pos hq]; exact ((hT q hq).2.2.1 hd).2
    · show w.heap.size + 1 + 1 ≠ w.heap.size + 1; omega
    · show w.heap.size + 1 + 1 ≠ g; omega
    · show w.heap.size + 1 + 1 ≠ (if q < 3 then _ else _)
      rw [if_pos hq]; have := (hT q hq).2.1; omega
    · show w.heap.size + 1 ≠ g; omega
    · show w.heap.size + 1 ≠ (if q < 3 then _ else _)
      rw [if_pos hq]; have := (hT q hq).2.1; omega
    · show g ≠ (if q < 3 then _ else _)
      rw [if_pos hq]; exact farP q hq
    · show (if q < 3 then _ else _) ≠ (if q' < 3 then _ else _)
      rw [if_pos hq, if_pos hq']; exact far q q' hq hq' hne
  · show _ ≤ (if q < 3 then _ else _)
    split
    · have := (hT q (by assumption)).2.1; omega
    · exact Nat.le_refl _
end Go.Proofs.YtcgabodkegcpgaaGreatDoor
namespace Go.Proofs.YtcgabodkegcpgaaGreatDoor
open Go.RowKit
set_option linter.unusedVariables false
set_option linter.unusedSimpArgs false

/-- What a list of lists is: how many, their elements' types, cells and bytes. -/
structure LTy where
  T : TypeId
  m : Nat
  ty : Nat → TypeId
  sz : Nat → Nat
structure Lists (L : LTy) (w : World) (b base : Nat) (V : Nat → Value) (N : Nat → Nat) (X : Nat → List Value) : Prop where
  str : w.rowIs b L.T L.m V
  own : ∀ c, c < L.m → w.ownsRow base (L.ty c) (L.sz c) (V c) (N c) (X c)
  apart : ∀ c c', c < L.m → c' < L.m → c ≠ c' → (V c).ownBlock = none ∨ (V c).ownBlock ≠ (V c').ownBlock
  far : ∀ c, c < L.m → (V c).ownBlock ≠ some b
section
variable {L : LTy} {w w2 : World} {b base : Nat} {V : Nat → Value} {N : Nat → Nat} {X : Nat → List Value}
/-- The blocks of the lists. -/
def LTy.is (L : LTy) (b : Nat) (V : Nat → Value) (k : Nat) : Prop := k = b ∨ ∃ c, c < L.m ∧ (V c).ownBlock = some k
theorem Lists.lt (h : Lists L w b base V N X) {k : Nat} (hk : L.is b V k) : k < w.heap.size := by
  rcases hk with rfl | ⟨c, hc, e⟩
  · exact h.str.lt
  · exact ((h.own c hc).lt k e).2
theorem Lists.same (h : Lists L w b base V N X) (hb : ∀ k, k < w.heap.size → L.is b V k → w2.heap[k]? = w.heap[k]?) : Lists L w2 b base V N X := by
  refine ⟨h.str.of_block (hb _ h.str.lt (Or.inl rfl)), fun c hc => ⟨(h.own c hc).1, ?_⟩, h.apart, h.far⟩
  rcases (h.own c hc).2 with hn | ⟨g, cap, cur, e, hg, hgg, rest⟩
  · exact Or.inl hn
  · exact Or.inr ⟨g, cap, cur, e, hg, by rw [hb g (Array.getElem?_eq_some_iff.1 hgg).1 (Or.inr ⟨c, hc, by rw [e]; rfl⟩)]; exact hgg, rest⟩
theorem Lists.alloc (h : Lists L w b base V N X) (o : Obj) : Lists L (w.alloc o) b base V N X := h.same fun k hk _ => Below.heap_alloc w o k hk
theorem Lists.cell (h : Lists L w b base V N X) {c : Nat} (hc : c < L.m) : w.cell? ⟨b, c, none⟩ = some (V c) := h.str.cell hc
theorem Lists.grown (h : Lists L w b base V N X) {c : Nat} (hc : c < L.m) (g2 : w.grownBy w2 (V c).ownBlock) {g n cap : Nat} {xs : List Value} (o2 : w2.ownsRow base (L.ty c) (L.sz c) (.slice (some ⟨g, 0, none⟩) n cap) n xs) (hl : (V c).ownBlock = some g ∨ g = w.heap.size) :
    Lists L (w2.setCell ⟨b, c, none⟩ (.slice (some ⟨g, 0, none⟩) n cap)) b base (up V c (.slice (some ⟨g, 0, none⟩) n cap)) (up N c n) (up X c xs) := by
  generalize hu : Value.slice (some ⟨g, 0, none⟩) n cap = u at *
  have hub : u.ownBlock = some g := by rw [← hu]; rfl
  have hgb : g ≠ b := by
    rcases hl with hl | hl
    · intro e; exact h.far c hc (by rw [hl, e])
    · have := h.str.lt; omega
  have hb : w2.heap[b]? = w.heap[b]? := g2.block b h.str.lt (fun e => h.far c hc e.symm)
  have hs : ∀ i, i ≠ b → (w2.setCell ⟨b, c, none⟩ u).heap[i]? = w2.heap[i]? := fun i hi => Below.heap_setCell w2 _ u i (by simpa using hi)
  have gs : w2.grownBy (w2.setCell ⟨b, c, none⟩ u) (some b) := ⟨rfl, rfl, rfl, by rw [size_setCell]; exact Nat.le_refl _, fun i hi hne => hs i (fun e => hne (by rw [e]))⟩
  refine ⟨?_, ?_, ?_, ?_⟩
  · refine ((h.str.of_block hb).set c u).congr fun j hj => ?_
    unfold up
    by_cases e : j = c
    · subst e; simp
    · simp [e]
  · intro a ha
    by_cases e : a = c
    · subst e
      rw [up_same, up_same, up_same]
      exact o2.kept gs (Or.inr (by rw [hub]; intro e; injection e with e; exact hgb e))
    · rw [up_other _ _ e, up_other _ _ e, up_other _ _ e]
      have oa := (h.own a ha).kept g2 (h.apart a c ha hc e)
      exact oa.kept gs (Or.inr (h.far a ha))
  · intro a a' ha ha' hab
    have lt : ∀ d, d < L.m → ∀ k, (V d).ownBlock = some k → k < w.heap.size := fun d hd k hk => ((h.own d hd).lt k hk).2
    by_cases ea : a = c
    · subst ea
      rw [up_same, up_other _ _ (Ne.symm hab), hub]
      right
      intro e
      rcases hl with hl | hl
      · rcases h.apart a a' ha ha' hab with q | q
        · rw [q] at hl; cases hl
        · exact q (hl.trans e)
      · have := lt a' ha' g e.symm; omega
    · rw [up_other _ _ ea]
      by_cases eb : a' = c
      · subst eb
        rw [up_same, hub]
        rcases h.apart a a' ha ha' hab with q | q
        · exact Or.inl q
        · rcases hl with hl | hl
          · right; rw [← hl]; exact q
          · right; intro e; have := lt a ha g e; omega
      · rw [up_other _ _ eb]; exact h.apart a a' ha ha' hab
  · intro a ha
    by_cases e : a = c
    · subst e; rw [up_same, hub]; intro e; injection e with e; exact hgb e
    · rw [up_other _ _ e]; exact h.far a ha
/-- A list has grown by one, and its place in the struct will be written. -/
structure Grew (L : LTy) (w w2 : World) (b base : Nat) (V : Nat → Value) (N : Nat → Nat) (X : Nat → List Value) (c g cap : Nat) (news : List Value) : Prop where
  lists : Lists L (w2.setCell ⟨b, c, none⟩ (.slice (some ⟨g, 0, none⟩) (N c + 1) cap)) b base (up V c (.slice (some ⟨g, 0, none⟩) (N c + 1) cap)) (up N c (N c + 1)) (up X c (X c ++ news))
  row : w2.rowIs b L.T L.m V
  grown : w.grownBy w2 (V c).ownBlock
  lies : (V c).ownBlock = some g ∨ g = w.heap.size
theorem lists_app {P : Program} (h : Lists L w b base V N X) {c : Nat} (hc : c < L.m) {i : TypeInfo} {z : Value} {by_ : Nat} (t : TypeId) (ht : P.underlying t = some (.slice (L.ty c))) (hi : P.info? (L.ty c) = some i) (hz : i.zero = some z) (hsize : i.size = L.sz c) (hby : i.bytes = by_) (hzs : z.cells.size = L.sz c) (hsz : 0 < L.sz c)
    (ad : Addr) (cp : Nat) (news : List Value) (hl : news.length = L.sz c) (hnews : ∀ j u, news[j]? = some u → w.cell? (ad.add j) = some u) (h1 : ∀ u ∈ news, u.oneCell' = true)
    (h63 : N c + 1 ≤ maxLen) (hbytes : (N c + 1) * by_ ≤ 140737488355328) (hbase : base ≤ w.heap.size)
    {ops : Array Oper} {rest : List Oper} {o : Oper} {a : Go.Act} {Q : Exit → Go.Act → World → Prop} (hgd : o.guard = none) (s x : Operand)
    (ho : o.op = .call { callee := .builtin .append, args := #[s, x], argTypes := #[t, t] }) (hs : a.eval s = V c) (hx : a.eval x = .slice (some ad) 1 cp)
    (hk : ∀ g cap w2, Grew L w w2 b base V N X c g cap news → wpList P ops Q rest (a.put o.dst (.slice (some ⟨g, 0, none⟩) (N c + 1) cap)) w2) :
    wpList P ops Q (o :: rest) a w := by
  refine wpList_append_lies _ hgd s x t ho base (L.ty c) i z (L.sz c) by_ ht hi hz hsize hby hzs hsz (V c) (N c) (X c) hs (h.own c hc) ad 1 cp news hx (by rw [hl, Nat.one_mul]) hnews h1 (by omega) h63 hbytes hbase w.heap.size rfl ?_
  intro g cap w2 o2 g2 at2 lt2
  exact hk g cap w2 ⟨h.grown hc g2 o2 at2, h.str.of_block (g2.block b h.str.lt (fun e => h.far c hc e.symm)), g2, at2⟩
end
theorem info_of {P : Program} {t : TypeId} {z : Value} {n by_ : Nat} (h : (P.info? t).map (fun i => (i.zero, i.size, i.bytes)) = some (some z, n, by_)) : ∃ i, P.info? t = some i ∧ i.zero = some z ∧ i.size = n ∧ i.bytes = by_ := by
  cases hq : P.info? t with
  | none => rw [hq] at h; cases h
  | some i =>
    rw [hq] at h
    simp only [Option.map_some, Option.some.injEq, Prod.mk.injEq] at h
    exact ⟨i, rfl, h.1, h.2.1, h.2.2⟩
/-- A block's cells, laid: what will be put behind a list. -/
theorem laid_news {w : World} {C : List Value} {t : TypeId} (j : Nat) (u : Value) (hu : C[j]? = some u) : (w.alloc (.cells C.toArray t)).cell? ((⟨w.heap.size, 0, none⟩ : Addr).add j) = some u := by
  have hb := heap_alloc_new w (.cells C.toArray t)
  rw [Addr.add_mid, Nat.zero_add, cell_of_row _ _ j _ _ _ hb]
  simpa using hu
def rng (f : Nat → Value) (n : Nat) : List Value := (List.range n).map f
theorem rng_get (f : Nat → Value) (n j : Nat) (h : j < n) : (rng f n)[j]? = some (f j) := by unfold rng; rw [List.getElem?_map, List.getElem?_range h]; rfl
theorem rng_len (f : Nat → Value) (n : Nat) : (rng f n).length = n := by simp [rng]
theorem rng_add (f : Nat → Value) (n m : Nat) : rng f (n + m) = rng f n ++ (List.range m).map (fun j => f (n + j)) := by
  unfold rng
  rw [List.range_add, List.map_append, List.map_map]
  rfl
end Go.Proofs.YtcgabodkegcpgaaGreatDoor
namespace Go.Proofs.YtcgabodkegcpgaaGreatDoor
open Go.RowKit
set_option linter.unusedVariables false
set_option linter.unusedSimpArgs false

/-- Writing all cells one by one gives the list. -/
theorem foldl_cells (cs : List Value) : ∀ (k : Nat) (pre : List Value) (z : Array Value), z.size = k + cs.length → pre.length = k → (∀ j, j < k → z[j]? = pre[j]?) →
    (cs.zipIdx k).foldl (fun (a : Array Value) (x : Value × Nat) => a.setIfInBounds x.2 x.1) z = (pre ++ cs).toArray := by
  induction cs with
  | nil =>
    intro k pre z hz hp hj
    simp only [List.zipIdx_nil, List.foldl_nil, List.append_nil]
    apply Array.ext_getElem?
    intro i
    by_cases h : i < k
    · rw [hj i h]; simp
    · simp at hz
      rw [Array.getElem?_eq_none (by omega), Array.getElem?_eq_none (by simp; omega)]
  | cons c cs ih =>
    intro k pre z hz hp hj
    simp only [List.zipIdx_cons, List.foldl_cons]
    rw [ih (k + 1) (pre ++ [c]) _ (by simp at hz ⊢; omega) (by simp; omega) ?_]
    · simp
    · intro j hj'
      by_cases e : j = k
      · subst e
        rw [Array.getElem?_setIfInBounds_self, if_pos (by simp at hz; omega), ← hp]
        simp
      · rw [Array.getElem?_setIfInBounds_ne (by omega), hj j (by omega), List.getElem?_append_left (by omega)]
theorem run_buildSlice_one {P : Program} (w : World) (t elem : TypeId) (i : TypeInfo) (z : Value) (cs : List Value) (m : Nat) (hu : P.underlying t = some (.slice elem)) (hi : P.info? elem = some i) (hz : i.zero = some z) (hs : i.size = m) (hl : cs.length = m) (hzs : z.cells.size = m) (hm : 0 < m) (hb : m ≤ 16777216) :
    (Instr.buildSlice t 1 #[(0, .agg cs.toArray)]).run P w = .ok (.slice (some ⟨w.heap.size, 0, none⟩) 1 1) (w.alloc (.cells cs.toArray elem)) := by
  have hf : Instr.fill (fun i => some (i * m, m)) ((Array.range (1 * m)).map (z.cells[· % z.cells.size]!)) [(0, .agg cs.toArray)] = some cs.toArray := by
    unfold Instr.fill
    have h1 : (Value.agg cs.toArray).cells = cs.toArray := rfl
    simp only [Nat.zero_mul, Nat.zero_add, h1]
    rw [if_neg (by simp; omega)]
    unfold Instr.fill
    congr 1
    have := foldl_cells cs 0 [] ((Array.range (1 * m)).map (z.cells[· % z.cells.size]!)) (by simp; omega) rfl (fun j hj => by omega)
    simp only [List.nil_append] at this
    rw [← Array.foldl_toList]
    simpa using this
  simp only [Nat.one_mul] at hf
  simp [Instr.buildSlice, run_underlying hu, sizeOf, typeInfo, zeroValue, hi, hz, hs, newRow, Nat.not_lt.2 hb, show m ≠ 0 by omega, hf]
theorem wpList_buildSlice_one {P : Program} {w : World} {ops : Array Oper} {rest : List Oper} {o : Oper} {a : Act} {Q : Exit → Act → World → Prop} (hg : o.guard = none) (x : Operand) (t elem : TypeId) (hop : o.op = .buildSlice t 1 #[(0, x)]) (i : TypeInfo) (z : Value) (cs : List Value) (m : Nat) (hx : a.eval x = .agg cs.toArray)
    (hu : P.underlying t = some (.slice elem)) (hi : P.info? elem = some i) (hz : i.zero = some z) (hs : i.size = m) (hl : cs.length = m) (hzs : z.cells.size = m) (hm : 0 < m) (hb : m ≤ 16777216)
    (h : wpList P ops Q rest (a.put o.dst (.slice (some ⟨w.heap.size, 0, none⟩) 1 1)) (w.alloc (.cells cs.toArray elem))) : wpList P ops Q (o :: rest) a w := by
  refine wpList_plain hg fun K hK' => ?_
  unfold Oper.wp
  simp [execOp, hop, hx, run_buildSlice_one w t elem i z cs m hu hi hz hs hl hzs hm hb, Result.andThen]
  exact hK' _ _ h
/-- A store of many cells: behind it all that is known is laid down, and the world has a name of its own. -/
theorem wpList_store_world {P : Program} {ops : Array Oper} {rest : List Oper} {op : Oper} {a : Act} {w : World} {Q : Exit → Act → World → Prop} (hgd : op.guard = none) (ty : TypeId) (x y : Operand) (ho : op.op = .store ty x y)
    (b o : Nat) (cells : Array Value) (hx : a.eval x = .pointer (some ⟨b, o, none⟩)) (hy : a.eval y = .agg cells)
    (ht : w.there b o cells.size) (hi : (P.info? ty).map (·.size) = some cells.size) (h1 : cells.all (·.oneCell') = true)
    (h : ∀ W, W = w.setCells b o cells.toList → wpList P ops Q rest (a.put op.dst undef) W) : wpList P ops Q (op :: rest) a w :=
  wpList_store_mid hgd ty x y ho b o cells hx hy ht hi h1 (h _ rfl)
theorem new_stored (w : World) (C : Array Value) (t : TypeId) (cs : List Value) (m : Nat) (hC : C.size = m) (hl : cs.length = m) (f : Nat → Value) (hf : ∀ j, j < m → cs[j]? = some (f j)) :
    ((w.alloc (.cells C t)).setCells w.heap.size 0 cs.toArray.toList).rowIs w.heap.size t m f ∧ Below w.heap.size w ((w.alloc (.cells C t)).setCells w.heap.size 0 cs.toArray.toList) ∧ ((w.alloc (.cells C t)).setCells w.heap.size 0 cs.toArray.toList).heap.size = w.heap.size + 1 := by
  have h := rowIs_setCells cs.toArray.toList 0 (rowIs_new w C t)
  rw [hC] at h
  refine ⟨h.congr fun j hj => ?_, below_setCells (Nat.le_refl _) _ _ ((Below.refl _ _).alloc (Nat.le_refl _) _), by rw [size_setCells]; simp⟩
  rw [if_pos ⟨Nat.zero_le _, by simp; omega⟩, Nat.sub_zero, List.getD_eq_getElem?_getD]
  simp [hf j hj]
theorem there_newm (w : World) (c : Array Value) (t : TypeId) (m : Nat) (h : c.size = m) : (w.alloc (.cells c t)).there w.heap.size 0 m :=
  rowIs_there (rowIs_new w c t) (o := 0) (m := m) (by omega)
end Go.Proofs.YtcgabodkegcpgaaGreatDoor
