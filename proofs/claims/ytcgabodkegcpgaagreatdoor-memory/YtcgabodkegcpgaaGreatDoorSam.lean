/- The statement's comparison of structs: it answers, and true where the cells agree. -/
import Derived.Test.YtcgabodkegcpgaaGreatDoorSta
namespace Go.Proofs.YtcgabodkegcpgaaGreatDoor
open Go.RowKit
set_option linter.unusedVariables false
set_option linter.unusedSimpArgs false

/-- Comparing two values of a type answers in every world, and true if they are the same. -/
def Same (P : Program) (d : Nat) (t : TypeId) (x y : Value) : Prop := ∃ r, (∀ w, (Op.equalIn d t x y).run P w = .ok r w) ∧ (x = y → r = true)
/-- A part of a value. -/
def Pt (P : Program) (t : TypeId) (xs : Array Value) (o : Nat) (a : Value) : Prop := ∀ w, (part t xs o).run P w = .ok a w
section
variable {P : Program} {d : Nat} {t : TypeId}
theorem Pt.same {xs : Array Value} {o : Nat} {a b : Value} (h : Pt P t xs o a) (h' : Pt P t xs o b) : a = b := by
  have := (h default).symm.trans (h' default)
  injection this
theorem pt_agg {xs : Array Value} {o n : Nat} (h : ∀ w, (isAgg t).run P w = .ok true w) (hs : ∀ w, (sizeOf t).run P w = .ok n w) : Pt P t xs o (.agg (xs.extract o (o + n))) := fun w => by
  simp [part, h, hs]
theorem pt_one {xs : Array Value} {o : Nat} {v : Value} (h : ∀ w, (isAgg t).run P w = .ok false w) (hv : xs[o]? = some v) : Pt P t xs o v := fun w => by
  simp [part, h, hv]
theorem same_int {k : IntKind} (h : P.underlying t = some (.int .i64)) (a b : Int) : Same P (d + 1) t (.int .i64 a) (.int .i64 b) :=
  ⟨a == b, fun w => run_equalIn_int w d t .i64 .i64 a b h, fun e => by injection e with _ e; subst e; simp⟩
theorem same_bool (h : P.underlying t = some .bool) (a b : Bool) : Same P (d + 1) t (.bool a) (.bool b) :=
  ⟨a == b, fun w => run_equalIn_bool' w d t a b h, fun e => by injection e with e; subst e; simp⟩
theorem same_fields {xs ys : Array Value} : ∀ (fs : List Field), (∀ f ∈ fs, f.name ≠ "_" ∧ ∃ a b, Pt P f.type xs f.offset a ∧ Pt P f.type ys f.offset b ∧ Same P d f.type a b) →
    ∃ r, (∀ w, (Op.eqFields d xs ys fs).run P w = .ok r w) ∧ (xs = ys → r = true)
  | [], _ => ⟨true, fun w => by simp [Op.eqFields], fun _ => rfl⟩
  | f :: fs, h => by
    obtain ⟨r, hr, hx⟩ := same_fields fs (fun g hg => h g (by simp [hg]))
    obtain ⟨hn, a, b, ha, hb, q, hq, he⟩ := h f (by simp)
    refine ⟨q && r, fun w => ?_, fun e => ?_⟩
    · rw [Op.eqFields, if_pos hn]
      cases q <;> simp [ha w, hb w, hq w, hr w]
    · rw [hx e, he (by subst e; exact ha.same hb)]; rfl
theorem same_struct {xs ys : Array Value} (ht : P.underlying t = some (.struct (P.fieldsOf t))) (hp : P.stoodInHeld t = false)
    (h : ∀ f ∈ (P.fieldsOf t).toList, f.name ≠ "_" ∧ ∃ a b, Pt P f.type xs f.offset a ∧ Pt P f.type ys f.offset b ∧ Same P d f.type a b) : Same P (d + 1) t (.agg xs) (.agg ys) := by
  obtain ⟨r, hr, hx⟩ := same_fields (P := P) (d := d) _ h
  exact ⟨r, fun w => (run_equalIn_agg w d t xs ys ht hp).trans (hr w), fun e => hx (by injection e)⟩
theorem same_array {xs ys : Array Value} {e : TypeId} {n m : Nat} (ht : P.underlying t = some (.array n e)) (hs : ∀ w, (sizeOf e).run P w = .ok m w)
    (h : ∀ i, i < n → ∃ a b, Pt P e xs (i * m) a ∧ Pt P e ys (i * m) b ∧ Same P d e a b) : Same P (d + 1) t (.agg xs) (.agg ys) := by
  have H : ∀ i, ∃ q : Bool, i < n → ∃ a b, Pt P e xs (i * m) a ∧ Pt P e ys (i * m) b ∧ (∀ w, (Op.equalIn d e a b).run P w = .ok q w) ∧ (a = b → q = true) := fun i => by
    by_cases hi : i < n
    · obtain ⟨a, b, ha, hb, q, hq, he⟩ := h i hi
      exact ⟨q, fun _ => ⟨a, b, ha, hb, hq, he⟩⟩
    · exact ⟨true, fun h => absurd h hi⟩
  obtain ⟨q, hq⟩ := Classical.axiomOfChoice H
  refine ⟨(List.range' 0 n 1).all q, fun w => ?_, fun hxy => ?_⟩
  · rw [Op.equalIn]
    simp only [Sem.run_bind, run_underlying ht, Result.andThen_ok, hs, Std.Legacy.Range.forIn_eq_forIn_range', Std.Legacy.Range.size, Nat.sub_zero, Nat.add_sub_cancel, Nat.div_one]
    have hl : ∀ i ∈ List.range' 0 n 1, i < n := fun i hi => by simpa using (List.mem_range'_1.1 hi).2
    generalize List.range' 0 n 1 = l at hl ⊢
    induction l with
    | nil => simp
    | cons i l ih =>
      obtain ⟨a, b, ha, hb, hc, he⟩ := hq i (hl i (by simp))
      simp only [List.forIn_cons, Sem.run_bind, ha w, hb w, hc w, Result.andThen_ok, List.all_cons]
      cases q i
      · simp
      · simp only [Bool.not_true, Bool.false_eq_true, if_false, Sem.run_pure, Result.andThen_ok, Bool.true_and]
        exact ih fun j hj => hl j (by simp [hj])
  · rw [List.all_eq_true]
    intro i hi
    obtain ⟨a, b, ha, hb, hc, he⟩ := hq i (by simpa using (List.mem_range'_1.1 hi).2)
    injection hxy with hxy
    subst hxy
    exact he (ha.same hb)
end

/-- Comparing two structs by '!=' answers r in every world. -/
def Cmp (t : TypeId) (a b : List Value) (r : Bool) : Prop := ∀ w, (binOp .neq t (.agg a.toArray) (.agg b.toArray)).run Tryz.prog w = .ok (.bool (!r)) w
theorem cmp_of {t : TypeId} {a b : List Value} (h : Same Tryz.prog 10000 t (.agg a.toArray) (.agg b.toArray)) : ∃ r, Cmp t a b r ∧ (a = b → r = true) := by
  obtain ⟨r, hr, he⟩ := h
  exact ⟨r, fun w => by rw [run_neq_struct, hr w]; rfl, fun e => he (by rw [e])⟩
/-- What lies at an offset is a number, or a truth. -/
def IntAt (xs : Array Value) (o : Nat) : Prop := ∃ v, xs[o]? = some (.int .i64 v)
def BoolAt (xs : Array Value) (o : Nat) : Prop := ∃ v, xs[o]? = some (.bool v)
theorem IntAt.cut {xs : Array Value} {a b o : Nat} (h : IntAt xs (a + o)) (hb : a + o < b) : IntAt (xs.extract a b) o := by
  obtain ⟨v, hv⟩ := h
  have := (Array.getElem?_eq_some_iff.1 hv).1
  exact ⟨v, by rw [Array.getElem?_extract, if_pos (by omega)]; exact hv⟩
theorem BoolAt.cut {xs : Array Value} {a b o : Nat} (h : BoolAt xs (a + o)) (hb : a + o < b) : BoolAt (xs.extract a b) o := by
  obtain ⟨v, hv⟩ := h
  have := (Array.getElem?_eq_some_iff.1 hv).1
  exact ⟨v, by rw [Array.getElem?_extract, if_pos (by omega)]; exact hv⟩
theorem part_int {d : Nat} {xs ys : Array Value} {o : Nat} (hx : IntAt xs o) (hy : IntAt ys o) : ∃ a b, Pt Tryz.prog 3 xs o a ∧ Pt Tryz.prog 3 ys o b ∧ Same Tryz.prog (d + 1) 3 a b := by
  obtain ⟨v, hv⟩ := hx; obtain ⟨u, hu⟩ := hy
  exact ⟨_, _, pt_one Tryz.isAgg3 hv, pt_one Tryz.isAgg3 hu, same_int (k := .i64) Tryz.underlying3 v u⟩
theorem part_bool {d : Nat} {xs ys : Array Value} {o : Nat} (hx : BoolAt xs o) (hy : BoolAt ys o) : ∃ a b, Pt Tryz.prog 4 xs o a ∧ Pt Tryz.prog 4 ys o b ∧ Same Tryz.prog (d + 1) 4 a b := by
  obtain ⟨v, hv⟩ := hx; obtain ⟨u, hu⟩ := hy
  exact ⟨_, _, pt_one Tryz.isAgg4 hv, pt_one Tryz.isAgg4 hu, same_bool Tryz.underlying4 v u⟩

theorem same_duct {d : Nat} {xs ys : Array Value} (hx : ∀ j, j < 5 → IntAt xs j) (hy : ∀ j, j < 5 → IntAt ys j) : Same Tryz.prog (d + 2) 87 (.agg xs) (.agg ys) := by
  refine same_struct (by kernel_rfl) (by kernel_rfl) ?_
  have e : (Tryz.prog.fieldsOf 87).toList.map (fun f => (f.name != "_", f.type, f.offset)) = [(true, 3, 0), (true, 3, 1), (true, 3, 2), (true, 3, 3), (true, 3, 4)] := by kernel_rfl
  intro f hf
  have hm := List.mem_map_of_mem (f := fun f : Field => (f.name != "_", f.type, f.offset)) hf
  rw [e] at hm
  generalize hn : (f.name != "_") = n at hm
  generalize f.type = ft at *
  generalize f.offset = fo at *
  simp at hm
  rcases hm with ⟨rfl, rfl, rfl⟩ | ⟨rfl, rfl, rfl⟩ | ⟨rfl, rfl, rfl⟩ | ⟨rfl, rfl, rfl⟩ | ⟨rfl, rfl, rfl⟩
  all_goals exact ⟨by simpa using hn, part_int (hx _ (by omega)) (hy _ (by omega))⟩
end Go.Proofs.YtcgabodkegcpgaaGreatDoor
namespace Go.Proofs.YtcgabodkegcpgaaGreatDoor
open Go.RowKit
set_option linter.unusedVariables false
theorem same_words {d : Nat} {xs ys : Array Value} (hx : ∀ j, j < 4 → IntAt xs j) (hy : ∀ j, j < 4 → IntAt ys j) : Same Tryz.prog (d + 2) 69 (.agg xs) (.agg ys) :=
  same_array Tryz.underlying69 Tryz.sizeOf3 (fun i hi => part_int (hx _ (by omega)) (hy _ (by omega)))
theorem same_frame {d : Nat} {xs ys : Array Value} (hx : ∀ j, j < 6 → IntAt xs j) (hy : ∀ j, j < 6 → IntAt ys j) : Same Tryz.prog (d + 3) 71 (.agg xs) (.agg ys) := by
  refine same_struct (by kernel_rfl) (by kernel_rfl) ?_
  have e : (Tryz.prog.fieldsOf 71).toList.map (fun f => (f.name != "_", f.type, f.offset)) = [(true, 3, 0), (true, 3, 1), (true, 69, 2)] := by kernel_rfl
  intro f hf
  have hm := List.mem_map_of_mem (f := fun f : Field => (f.name != "_", f.type, f.offset)) hf
  rw [e] at hm
  generalize hn : (f.name != "_") = n at hm
  generalize f.type = ft at *
  generalize f.offset = fo at *
  simp at hm
  rcases hm with ⟨rfl, rfl, rfl⟩ | ⟨rfl, rfl, rfl⟩ | ⟨rfl, rfl, rfl⟩
  · exact ⟨by simpa using hn, part_int (hx _ (by omega)) (hy _ (by omega))⟩
  · exact ⟨by simpa using hn, part_int (hx _ (by omega)) (hy _ (by omega))⟩
  · exact ⟨by simpa using hn, _, _, pt_agg Tryz.isAgg69 Tryz.sizeOf69, pt_agg Tryz.isAgg69 Tryz.sizeOf69, same_words (fun j hj => (hx (2 + j) (by omega)).cut (by omega)) (fun j hj => (hy (2 + j) (by omega)).cut (by omega))⟩
/-- Four pairs of a number and a truth. -/
def Pairs (n : Nat) (xs : Array Value) (o : Nat) : Prop := ∀ i, i < n → IntAt xs (o + i * 2) ∧ BoolAt xs (o + i * 2 + 1)
theorem Pairs.cut {n : Nat} {xs : Array Value} {o b : Nat} (h : Pairs n xs o) (hb : o + n * 2 ≤ b) : Pairs n (xs.extract o b) 0 := fun i hi =>
  ⟨(show IntAt xs (o + (0 + i * 2)) by rw [Nat.zero_add]; exact (h i hi).1).cut (by omega), (show BoolAt xs (o + (0 + i * 2 + 1)) by rw [Nat.zero_add, ← Nat.add_assoc]; exact (h i hi).2).cut (by omega)⟩
theorem Pairs.one {n : Nat} {xs : Array Value} {o i : Nat} (h : Pairs n xs o) (hi : i < n) : Pairs 1 xs (o + i * 2) := fun j hj => by
  obtain rfl : j = 0 := by omega
  simpa using h i hi
theorem same_entry {d : Nat} {xs ys : Array Value} (hx : Pairs 1 xs 0) (hy : Pairs 1 ys 0) : Same Tryz.prog (d + 2) 76 (.agg xs) (.agg ys) := by
  refine same_struct (by kernel_rfl) (by kernel_rfl) ?_
  have e : (Tryz.prog.fieldsOf 76).toList.map (fun f => (f.name != "_", f.type, f.offset)) = [(true, 3, 0), (true, 4, 1)] := by kernel_rfl
  intro f hf
  have hm := List.mem_map_of_mem (f := fun f : Field => (f.name != "_", f.type, f.offset)) hf
  rw [e] at hm
  generalize hn : (f.name != "_") = n at hm
  generalize f.type = ft at *
  generalize f.offset = fo at *
  simp at hm
  rcases hm with ⟨rfl, rfl, rfl⟩ | ⟨rfl, rfl, rfl⟩
  · exact ⟨by simpa using hn, part_int (hx 0 (by omega)).1 (hy 0 (by omega)).1⟩
  · exact ⟨by simpa using hn, part_bool (hx 0 (by omega)).2 (hy 0 (by omega)).2⟩
theorem same_file {d : Nat} {xs ys : Array Value} (hx : Pairs 1 xs 0) (hy : Pairs 1 ys 0) : Same Tryz.prog (d + 2) 79 (.agg xs) (.agg ys) := by
  refine same_struct (by kernel_rfl) (by kernel_rfl) ?_
  have e : (Tryz.prog.fieldsOf 79).toList.map (fun f => (f.name != "_", f.type, f.offset)) = [(true, 3, 0), (true, 4, 1)] := by kernel_rfl
  intro f hf
  have hm := List.mem_map_of_mem (f := fun f : Field => (f.name != "_", f.type, f.offset)) hf
  rw [e] at hm
  generalize hn : (f.name != "_") = n at hm
  generalize f.type = ft at *
  generalize f.offset = fo at *
  simp at hm
  rcases hm with ⟨rfl, rfl, rfl⟩ | ⟨rfl, rfl, rfl⟩
  · exact ⟨by simpa using hn, part_int (hx 0 (by omega)).1 (hy 0 (by omega)).1⟩
  · exact ⟨by simpa using hn, part_bool (hx 0 (by omega)).2 (hy 0 (by omega)).2⟩
theorem same_pages {d : Nat} {xs ys : Array Value} (hx : Pairs 4 xs 0) (hy : Pairs 4 ys 0) : Same Tryz.prog (d + 3) 77 (.agg xs) (.agg ys) :=
  same_array Tryz.underlying77 Tryz.sizeOf76 (fun i hi => ⟨_, _, pt_agg Tryz.isAgg76 Tryz.sizeOf76, pt_agg Tryz.isAgg76 Tryz.sizeOf76, same_entry ((show Pairs 1 xs (i * 2) by simpa using hx.one hi).cut (by omega)) ((show Pairs 1 ys (i * 2) by simpa using hy.one hi).cut (by omega))⟩)
theorem same_files {d : Nat} {xs ys : Array Value} (hx : Pairs 4 xs 0) (hy : Pairs 4 ys 0) : Same Tryz.prog (d + 3) 80 (.agg xs) (.agg ys) :=
  same_array Tryz.underlying80 Tryz.sizeOf79 (fun i hi => ⟨_, _, pt_agg Tryz.isAgg79 Tryz.sizeOf79, pt_agg Tryz.isAgg79 Tryz.sizeOf79, same_file ((show Pairs 1 xs (i * 2) by simpa using hx.one hi).cut (by omega)) ((show Pairs 1 ys (i * 2) by simpa using hy.one hi).cut (by omega))⟩)
structure SlotAt (xs : Array Value) : Prop where
  kind : IntAt xs 0
  parent : IntAt xs 1
  table : IntAt xs 2
  pages : Pairs 4 xs 3
  files : Pairs 4 xs 11
  code : IntAt xs 19
theorem same_slot {d : Nat} {xs ys : Array Value} (hx : SlotAt xs) (hy : SlotAt ys) : Same Tryz.prog (d + 4) 82 (.agg xs) (.agg ys) := by
  refine same_struct (by kernel_rfl) (by kernel_rfl) ?_
  have e : (Tryz.prog.fieldsOf 82).toList.map (fun f => (f.name != "_", f.type, f.offset)) = [(true, 3, 0), (true, 3, 1), (true, 3, 2), (true, 77, 3), (true, 80, 11), (true, 3, 19)] := by kernel_rfl
  intro f hf
  have hm := List.mem_map_of_mem (f := fun f : Field => (f.name != "_", f.type, f.offset)) hf
  rw [e] at hm
  generalize hn : (f.name != "_") = n at hm
  generalize f.type = ft at *
  generalize f.offset = fo at *
  simp at hm
  rcases hm with ⟨rfl, rfl, rfl⟩ | ⟨rfl, rfl, rfl⟩ | ⟨rfl, rfl, rfl⟩ | ⟨rfl, rfl, rfl⟩ | ⟨rfl, rfl, rfl⟩ | ⟨rfl, rfl, rfl⟩
  · exact ⟨by simpa using hn, part_int hx.kind hy.kind⟩
  · exact ⟨by simpa using hn, part_int hx.parent hy.parent⟩
  · exact ⟨by simpa using hn, part_int hx.table hy.table⟩
  · exact ⟨by simpa using hn, _, _, pt_agg Tryz.isAgg77 Tryz.sizeOf77, pt_agg Tryz.isAgg77 Tryz.sizeOf77, same_pages (hx.pages.cut (by omega)) (hy.pages.cut (by omega))⟩
  · exact ⟨by simpa using hn, _, _, pt_agg Tryz.isAgg80 Tryz.sizeOf80, pt_agg Tryz.isAgg80 Tryz.sizeOf80, same_files (hx.files.cut (by omega)) (hy.files.cut (by omega))⟩
  · exact ⟨by simpa using hn, part_int hx.code hy.code⟩
end Go.Proofs.YtcgabodkegcpgaaGreatDoor
