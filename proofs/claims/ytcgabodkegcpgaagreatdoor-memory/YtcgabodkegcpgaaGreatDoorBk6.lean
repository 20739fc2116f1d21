/- Every list that was handed out still reads as its mark. -/
import Derived.Test.YtcgabodkegcpgaaGreatDoorBk5
namespace Go.Proofs.YtcgabodkegcpgaaGreatDoor
open Go.RowKit
set_option linter.unusedVariables false
set_option linter.unusedSimpArgs false
attribute [local go_sem ↓] Go.wp_at_zero Go.wp_at_succ

theorem mk_at (c : Nat) (k : Int) (j : Nat) (h : j < stZ c) : (mrk c k).toArray[j]? = some (mkF c k j) := by simpa using mk_get c k j h
theorem mk_int {c : Nat} {k : Int} {j : Nat} (h : j < stZ c) (hb : c = 1 → ¬ (4 ≤ j ∧ j ≤ 18 ∧ j % 2 = 0)) : IntAt (mrk c k).toArray j := by
  rw [IntAt, mk_at c k j h]
  unfold mkF
  by_cases h0 : c = 0
  · rw [if_pos h0]; exact ⟨_, rfl⟩
  · rw [if_neg h0]
    by_cases h1 : c = 1
    · rw [if_pos h1, if_neg (hb h1)]; exact ⟨_, rfl⟩
    · rw [if_neg h1]; exact ⟨_, rfl⟩
theorem mk_bool {k : Int} {j : Nat} (h : j < 20) (hb : 4 ≤ j ∧ j ≤ 18 ∧ j % 2 = 0) : BoolAt (mrk 1 k).toArray j := by
  rw [BoolAt, mk_at 1 k j h]
  unfold mkF
  rw [if_neg (by omega), if_pos rfl, if_pos hb]; exact ⟨_, rfl⟩
theorem mk_cmp0 (k : Int) : Cmp 71 (mrk 0 k) (mrk 0 k) true := by
  obtain ⟨r, hr, e⟩ := cmp_of (t := 71) (a := mrk 0 k) (b := mrk 0 k) (same_frame (d := 9997) (fun j hj => mk_int hj (by omega)) (fun j hj => mk_int hj (by omega)))
  obtain rfl := e rfl
  exact hr
theorem mk_cmp2 (k : Int) : Cmp 87 (mrk 2 k) (mrk 2 k) true := by
  obtain ⟨r, hr, e⟩ := cmp_of (t := 87) (a := mrk 2 k) (b := mrk 2 k) (same_duct (d := 9998) (fun j hj => mk_int hj (by omega)) (fun j hj => mk_int hj (by omega)))
  obtain rfl := e rfl
  exact hr
theorem mk_slot (k : Int) : SlotAt (mrk 1 k).toArray :=
  ⟨mk_int (by decide) (by omega), mk_int (by decide) (by omega), mk_int (by decide) (by omega), fun i hi => ⟨mk_int (show 3 + i * 2 < 20 by omega) (by omega), mk_bool (by omega) (by omega)⟩, fun i hi => ⟨mk_int (show 11 + i * 2 < 20 by omega) (by omega), mk_bool (by omega) (by omega)⟩, mk_int (by decide) (by omega)⟩
theorem mk_cmp1 (k : Int) : Cmp 82 (mrk 1 k) (mrk 1 k) true := by
  obtain ⟨r, hr, e⟩ := cmp_of (t := 82) (a := mrk 1 k) (b := mrk 1 k) (same_slot (d := 9996) (mk_slot k) (mk_slot k))
  obtain rfl := e rfl
  exact hr
/-- An entry of the book. -/
theorem book_entry {w : World} {bb H : Nat} {V : Nat → Value} {N : Nat → Nat} {X : Nat → List Value} {A : Nat → Option (Nat × Nat × Nat)} (B : BookOk w bb H V N X A) {c i : Nat} (hc : c < 3) (hi : i < N c) {ac : Option Addr} {pc : Nat} (hv : V c = .slice ac (N c) pc) :
    ∃ gl a n cap k, ac = some ⟨gl, 0, none⟩ ∧ gl < w.heap.size ∧ w.cell? ⟨gl, i * 2, none⟩ = some (.slice a n cap) ∧ w.cell? ⟨gl, i * 2 + 1, none⟩ = some (.int .i64 (k : Nat)) ∧ n ≤ 64 ∧ k < N c ∧ (0 < n → ∃ g, a = some ⟨g, 0, none⟩ ∧ g < w.heap.size ∧ ∀ q, q < n → w.rangeAt g (q * stZ c) (mrk c k)) := by
  obtain ⟨a, n, cap, k, h1, h2, h3, h4, h5⟩ := B.ent c hc i hi
  have ow := B.lists.own c (by show c < 4; omega)
  obtain ⟨gl, cp, e, _, hl⟩ := ow.form (by omega)
  rw [hv] at e
  injection e with e1 _ _
  rw [hv, e1] at ow
  refine ⟨gl, a, n, cap, k, e1, hl, ?_, ?_, h3, h4, fun hn => ?_⟩
  · rw [ow.cellAt (i * 2) (by show i * 2 < N c * 2; omega)]; exact h1
  · rw [ow.cellAt (i * 2 + 1) (by show i * 2 + 1 < N c * 2; omega)]; exact h2
  · obtain ⟨g, L, x1, x2, x3⟩ := h5 hn
    obtain ⟨y1, y2, y3, y4, y5⟩ := B.blk _ _ _ _ x2
    exact ⟨g, x1, y3, fun q hq => y5 q (by omega)⟩
theorem range_blk {W W' : World} {b o : Nat} {cs : List Value} (h : W.rangeAt b o cs) (e : W'.heap[b]? = W.heap[b]?) : W'.rangeAt b o cs := fun j v hv =>
  (World.cell?_of_block (w := W) (a := ⟨b, o + j, none⟩) e).trans (h j v hv)

set_option maxRecDepth 100000 in
set_option maxHeartbeats 40000000 in
theorem looks_any {w : World} {bb H : Nat} {V : Nat → Value} {N : Nat → Nat} {X : Nat → List Value} {A : Nat → Option (Nat × Nat × Nat)} (B : BookOk w bb H V N X A) (hN : ∀ c, c < 3 → N c ≤ 7036874417568) :
    Calls Tryz.prog 10 #[.pointer (some ⟨bb, 0, none⟩)] w fun e w' => e = .returned (.bool true) ∧ Below w.heap.size w w' := by
  obtain ⟨a0, p0, hv0⟩ := own_slice (B.lists.own 0 (by show 0 < 4; omega))
  obtain ⟨a1, p1, hv1⟩ := own_slice (B.lists.own 1 (by show 1 < 4; omega))
  obtain ⟨a2, p2, hv2⟩ := own_slice (B.lists.own 2 (by show 2 < 4; omega))
  have HB : Hid (BookOk w bb H V N X A) := B
  have HV : Hid (V 0 = .slice a0 (N 0) p0 ∧ V 1 = .slice a1 (N 1) p1 ∧ V 2 = .slice a2 (N 2) p2 ∧ V 3 = .slice none 0 0) := ⟨hv0, hv1, hv2, B.last⟩
  have hN0 := hN 0 (by omega)
  have hN1 := hN 1 (by omega)
  have hN2 := hN 2 (by omega)
  have hbb : Hid (bb < w.heap.size) := by have := B.bbH; have := B.hH; unfold Hid; omega
  clear B hN hv0 hv1 hv2
  go_enter Tryz.func10, Tryz.ntmps10
  go_wp2
  go_loopw [3] (fun i w' => ∃ j : Nat, j ≤ N 0 ∧ i = .int .i64 j ∧ Below w.heap.size w w') (fun i _ => N 0 - (intOf i).toNat)
  case atStart => exact ⟨0, by omega, rfl, Below.refl _ _⟩
  case round =>
    obtain ⟨j, hj, rfl, b1⟩ := hrel
    have Hb0 : Hid (Below w.heap.size w wr) := b1
    have HBr : Hid (BookOk wr bb H V N X A) := HB.out.same b1.size fun k hk _ => b1.block k hk
    have s0 : wr.cell? ⟨bb, 0, none⟩ = some (.slice a0 (N 0) p0) := by rw [← HV.out.1]; exact HBr.out.lists.cell (by show 0 < 4; omega)
    clear b1
    by_cases hlt : j < N 0
    · obtain ⟨gl, a, n, cap, k, rfl, hgl, y0, y1, hn, hk, hr⟩ := book_entry HBr.out (c := 0) (by omega) hlt HV.out.1
      -- L0(
      have HR : Hid (0 < n → ∃ g, a = some ⟨g, 0, none⟩ ∧ g < wr.heap.size ∧ ∀ q, q < n → wr.rangeAt g (q * 6) (mrk 0 k)) := hr
      have HL : Hid (gl < wr.heap.size ∧ bb < wr.heap.size ∧ k < N 0) := ⟨hgl, by have := hbb.out; have := Hb0.out.size; omega, hk⟩
      have hk' : k < 7036874417568 := by omega
      have j1 : (0 : Int) ≤ (j : Int) := by omega
      have j2 : (j : Int) < (N 0 : Int) := by omega
      obtain ⟨ms, ems⟩ : ∃ ms, ms = mrk 0 k := ⟨_, rfl⟩
      have HMS : Hid (ms = mrk 0 k) := ems
      have ez : Hid (ms.length = 6) := by unfold Hid; rw [ems]; exact mk_len 0 k
      have z1 : Hid (ms.toArray.size = 6) := by unfold Hid; rw [List.size_toArray]; exact ez.out
      have ei : Hid ((Tryz.prog.info? 71).map (·.size) = some ms.length) := by unfold Hid; rw [ez.out]; kernel_rfl
      have ei2 : Hid ((Tryz.prog.info? 71).map (·.size) = some ms.toArray.size) := by unfold Hid; rw [z1.out]; kernel_rfl
      have q0 : Hid (∀ u ∈ ms, u.oneCell' = true) := by unfold Hid; rw [ems]; exact mk_one 0 k
      have q1 : Hid (ms.toArray.all (·.oneCell') = true) := all_oneCell_toArray q0.out
      have AG : Hid (Value.agg (lit0 k).toArray = .agg ms.toArray) := by unfold Hid; rw [ems, mrk0]
      have HC : Hid (Cmp 71 ms ms true) := by unfold Hid; rw [ems]; exact mk_cmp0 k
      have Y0 : Hid (wr.cell? ⟨gl, j * 2, none⟩ = some (.slice a n cap)) := y0
      have S0 : Hid (wr.cell? ⟨bb, 0, none⟩ = some (.slice (some ⟨gl, 0, none⟩) (N 0) p0)) := s0
      clear hr hgl hk ems
      go_wp2_with (first | (refine wpList_store_world rfl 71 _ _ rfl wr.heap.size 0 ms.toArray rfl (Eq.trans rfl AG.out) (by rw [z1.out]; exact there_newm _ _ _ _ (by rfl)) ei2.out q1.out ?_; intro W1 eW1; have F1 : Hid (W1.rowIs wr.heap.size 71 6 (mkF 0 k) ∧ Below wr.heap.size wr W1 ∧ W1.heap.size = wr.heap.size + 1) := (by unfold Hid; rw [eW1]; exact new_stored _ _ _ ms 6 (by rfl) ez.out _ (fun j hj => by rw [HMS.out]; exact mk_get 0 k j hj)); clear eW1))
      obtain ⟨wo, rfl⟩ : ∃ x, x = wr := ⟨wr, rfl⟩
      clear s0 y0 y1
      go_loopw [5] (fun i w' => ∃ q : Nat, q ≤ n ∧ i = .int .i64 q ∧ Below W1.heap.size W1 w') (fun i _ => n - (intOf i).toNat)
      case atStart => exact ⟨0, by omega, rfl, Below.refl _ _⟩
      case round =>
        obtain ⟨q, hq, rfl, b1⟩ := hrel
        have Hb : Hid (Below W1.heap.size W1 wr) := b1
        have HW : Hid (Below wo.heap.size wo wr) := below_then F1.out.2.1 b1 F1.out.2.1.size
        have s0 : wr.cell? ⟨bb, 0, none⟩ = some (.slice (some ⟨gl, 0, none⟩) (N 0) p0) := below_cell HW.out HL.out.2.1 S0.out
        have s1 : wr.cell? ⟨gl, j * 2, none⟩ = some (.slice a n cap) := below_cell HW.out HL.out.1 Y0.out
        clear b1
        by_cases hlq : q < n
        · obtain ⟨g, rfl, hgl, hrg⟩ := HR.out (by omega)
          have L1 : Hid (wr.rangeAt g (q * 6) ms) := by unfold Hid; rw [HMS.out]; exact range_blk (hrg q hlq) (HW.out.block _ hgl)
          have L2 : Hid (wr.rangeAt wo.heap.size 0 ms) := range_blk (mark_range (c := 0) F1.out.1 HMS.out) (Hb.out.block _ (by have := F1.out.2.2; omega))
          have hcmp := HC.out
          unfold Cmp at hcmp
          have i1 : (0 : Int) ≤ (q : Int) := by omega
          have i2 : (q : Int) < (n : Int) := by omega
          clear hrg hgl
          go_wp2_with fail
          refine wp_region_held_drew (S := fun w' => w'.cell? ⟨bb, 0, none⟩ = some (.slice (some ⟨gl, 0, none⟩) (N 0) p0) ∧ w'.cell? ⟨gl, j * 2, none⟩ = some (.slice (some ⟨g, 0, none⟩) n cap) ∧ w'.rangeAt g (q * 6) ms ∧ w'.rangeAt wo.heap.size 0 ms) (by kernel_rfl) ⟨s0, s1, (World.rangeAt_drew _ _ _ _).2 L1.out, (World.rangeAt_drew _ _ _ _).2 L2.out⟩ (fun hS => ?_)
          refine wpAnyH_take (i := 0) (oi := { dst := some 47, op := Op.move (Operand.tmp 0), type := 40, pos := "book.go:93", after := #[], guard := none }) (v := .pointer (some ⟨bb, 0, none⟩)) rfl (by kernel_rfl) (by kernel_rfl) (by kernel_rfl) (fun _ _ _ h => h) (Or.inl ⟨by rfl, fun w h => by go_simp⟩) (by assumption) ?_
          try simp only [Act.put, List.setIfInBounds_toArray, List.set_cons_zero, List.set_cons_succ]
          refine wpAnyH_take (i := 1) (oi := { dst := some 48, op := Op.nilCheck (Operand.tmp 47), type := 0, pos := "book.go:93", after := #[{ on := 0, ground := Ground.data }], guard := none }) (v := .pointer (some ⟨bb, 0, none⟩)) rfl (by kernel_rfl) (by kernel_rfl) (by kernel_rfl) (fun _ _ _ h => h) (Or.inl ⟨by rfl, fun w h => by go_simp⟩) (by assumption) ?_
          try simp only [Act.put, List.setIfInBounds_toArray, List.set_cons_zero, List.set_cons_succ]
          refine wpAnyH_take (i := 2) (oi := { dst := some 49, op := Op.fieldAddr 55 (Operand.tmp 48) 0, type := 0, pos := "book.go:93", after := #[{ on := 1, ground := Ground.data }], guard := none }) (v := .pointer (some ⟨bb, 0, none⟩)) rfl (by kernel_rfl) (by kernel_rfl) (by kernel_rfl) (fun _ _ _ h => h) (Or.inl ⟨by rfl, fun w h => by go_simp⟩) (by assumption) ?_
          try simp only [Act.put, List.setIfInBounds_toArray, List.set_cons_zero, List.set_cons_succ]
          refine wpAnyH_take (i := 3) (oi := { dst := some 50, op := Op.load 50 (Operand.tmp 49), type := 50, pos := "book.go:93", after := #[{ on := 2, ground := Ground.data }], guard := none }) (v := .slice (some ⟨gl, 0, none⟩) (N 0) p0) rfl (by kernel_rfl) (by kernel_rfl) (by kernel_rfl) (fun _ _ _ h => h) (Or.inl ⟨by rfl, fun w h => by have h1 := h.1; go_simp⟩) (by assumption) ?_
          try simp only [Act.put, List.setIfInBounds_toArray, List.set_cons_zero, List.set_cons_succ]
          refine wpAnyH_take (i := 4) (oi := { dst := some 51, op := Op.move (Operand.tmp 3), type := 3, pos := "book.go:93", after := #[], guard := none }) (v := .int .i64 j) rfl (by kernel_rfl) (by kernel_rfl) (by kernel_rfl) (fun _ _ _ h => h) (Or.inl ⟨by rfl, fun w h => by go_simp⟩) (by assumption) ?_
          try simp only [Act.put, List.setIfInBounds_toArray, List.set_cons_zero, List.set_cons_succ]
          refine wpAnyH_take (i := 5) (oi := { dst := some 52, op := Op.indexAddr 50 (Operand.tmp 50) (Operand.tmp 51), type := 0, pos := "book.go:93", after := #[{ on := 3, ground := Ground.data }, { on := 4, ground := Ground.data }], guard := none }) (v := .pointer (some ⟨gl, j * 2, none⟩)) rfl (by kernel_rfl) (by kernel_rfl) (by kernel_rfl) (fun _ _ _ h => h) (Or.inl ⟨by rfl, fun w h => by go_simp⟩) (by assumption) ?_
          try simp only [Act.put, List.setIfInBounds_toArray, List.set_cons_zero, List.set_cons_succ]
          refine wpAnyH_take (i := 6) (oi := { dst := some 53, op := Op.fieldAddr 68 (Operand.tmp 52) 0, type := 0, pos := "book.go:93", after := #[{ on := 5, ground := Ground.data }], guard := none }) (v := .pointer (some ⟨gl, j * 2, none⟩)) rfl (by kernel_rfl) (by kernel_rfl) (by kernel_rfl) (fun _ _ _ h => h) (Or.inl ⟨by rfl, fun w h => by go_simp⟩) (by assumption) ?_
          try simp only [Act.put, List.setIfInBounds_toArray, List.set_cons_zero, List.set_cons_succ]
          refine wpAnyH_take (i := 7) (oi := { dst := some 54, op := Op.load 66 (Operand.tmp 53), type := 66, pos := "book.go:93", after := #[{ on := 6, ground := Ground.data }], guard := none }) (v := .slice (some ⟨g, 0, none⟩) n cap) rfl (by kernel_rfl) (by kernel_rfl) (by kernel_rfl) (fun _ _ _ h => h) (Or.inl ⟨by rfl, fun w h => by have h1 := h.2.1; go_simp⟩) (by assumption) ?_
          try simp only [Act.put, List.setIfInBounds_toArray, List.set_cons_zero, List.set_cons_succ]
          refine wpAnyH_take (i := 8) (oi := { dst := some 55, op := Op.move (Operand.tmp 5), type := 3, pos := "book.go:93", after := #[], guard := none }) (v := .int .i64 q) rfl (by kernel_rfl) (by kernel_rfl) (by kernel_rfl) (fun _ _ _ h => h) (Or.inl ⟨by rfl, fun w h => by go_simp⟩) (by assumption) ?_
          try simp only [Act.put, List.setIfInBounds_toArray, List.set_cons_zero, List.set_cons_succ]
          refine wpAnyH_take (i := 9) (oi := { dst := some 56, op := Op.indexAddr 66 (Operand.tmp 54) (Operand.tmp 55), type := 0, pos := "book.go:93", after := #[{ on := 7, ground := Ground.data }, { on := 8, ground := Ground.data }], guard := none }) (v := .pointer (some ⟨g, q * 6, none⟩)) rfl (by kernel_rfl) (by kernel_rfl) (by kernel_rfl) (fun _ _ _ h => h) (Or.inl ⟨by rfl, fun w h => by go_simp⟩) (by assumption) ?_
          try simp only [Act.put, List.setIfInBounds_toArray, List.set_cons_zero, List.set_cons_succ]
          refine wpAnyH_take (i := 10) (oi := { dst := some 57, op := Op.load 71 (Operand.tmp 56), type := 71, pos := "book.go:93", after := #[{ on := 9, ground := Ground.data }], guard := none }) (v := .agg ms.toArray) rfl (by kernel_rfl) (by kernel_rfl) (by kernel_rfl) (fun _ _ _ h => h) (yieldsIf_load_mid (by rfl) _ _ rfl _ _ rfl _ _ (fun w h => h.2.2.1) Tryz.underlying71 rfl ei.out) (by assumption) ?_
          try simp only [Act.put, List.setIfInBounds_toArray, List.set_cons_zero, List.set_cons_succ]
          refine wpAnyH_take (i := 11) (oi := { dst := some 58, op := Op.load 71 (Operand.tmp 4), type := 71, pos := "book.go:93", after := #[], guard := none }) (v := .agg ms.toArray) rfl (by kernel_rfl) (by kernel_rfl) (by kernel_rfl) (fun _ _ _ h => h) (yieldsIf_load_mid (by rfl) _ _ rfl _ _ rfl _ _ (fun w h => h.2.2.2) Tryz.underlying71 rfl ei.out) (by assumption) ?_
          try simp only [Act.put, List.setIfInBounds_toArray, List.set_cons_zero, List.set_cons_succ]
          refine wpAnyH_take (i := 12) (oi := { dst := some 59, op := Op.binOp BinOp.neq 71 (Operand.tmp 57) (Operand.tmp 58) 71, type := 4, pos := "book.go:93", after := #[{ on := 10, ground := Ground.data }, { on := 11, ground := Ground.data }], guard := none }) (v := .bool false) rfl (by kernel_rfl) (by kernel_rfl) (by kernel_rfl) (fun _ _ _ h => h) (Or.inl ⟨by rfl, fun w h => by go_simp⟩) (by assumption) ?_
          try simp only [Act.put, List.setIfInBounds_toArray, List.set_cons_zero, List.set_cons_succ]
          refine wpAnyH_done (by kernel_rfl) ?_ _
          go_wp2
          exact ⟨⟨q + 1, by omega, by go_num, below_drew Hb.out⟩, by simp [intOf]; omega⟩
        · obtain rfl : q = n := by omega
          go_wp2
          exact ⟨⟨j + 1, by omega, by go_num, below_then Hb0.out HW.out Hb0.out.size⟩, by simp [intOf]; omega⟩
      -- )L0
    · obtain rfl : j = N 0 := by omega
      go_wp2
      clear s0
      go_loopw [6] (fun i w' => ∃ j : Nat, j ≤ N 1 ∧ i = .int .i64 j ∧ Below w.heap.size w w') (fun i _ => N 1 - (intOf i).toNat)
      case atStart => exact ⟨0, by omega, rfl, Hb0.out⟩
      case round =>
        obtain ⟨j, hj, rfl, b1⟩ := hrel
        have Hb1 : Hid (Below w.heap.size w wr) := b1
        have HBr : Hid (BookOk wr bb H V N X A) := HB.out.same b1.size fun k hk _ => b1.block k hk
        have s0 : wr.cell? ⟨bb, 1, none⟩ = some (.slice a1 (N 1) p1) := by rw [← HV.out.2.1]; exact HBr.out.lists.cell (by show 1 < 4; omega)
        clear b1
        by_cases hlt : j < N 1
        · obtain ⟨gl, a, n, cap, k, rfl, hgl, y0, y1, hn, hk, hr⟩ := book_entry HBr.out (c := 1) (by omega) hlt HV.out.2.1
          -- L1(
          have HR : Hid (0 < n → ∃ g, a = some ⟨g, 0, none⟩ ∧ g < wr.heap.size ∧ ∀ q, q < n → wr.rangeAt g (q * 20) (mrk 1 k)) := hr
          have HL : Hid (gl < wr.heap.size ∧ bb < wr.heap.size ∧ k < N 1) := ⟨hgl, by have := hbb.out; have := Hb1.out.size; omega, hk⟩
          have hk' : k < 7036874417568 := by omega
          have j1 : (0 : Int) ≤ (j : Int) := by omega
          have j2 : (j : Int) < (N 1 : Int) := by omega
          obtain ⟨ms, ems⟩ : ∃ ms, ms = mrk 1 k := ⟨_, rfl⟩
          have HMS : Hid (ms = mrk 1 k) := ems
          have ez : Hid (ms.length = 20) := by unfold Hid; rw [ems]; exact mk_len 1 k
          have z1 : Hid (ms.toArray.size = 20) := by unfold Hid; rw [List.size_toArray]; exact ez.out
          have ei : Hid ((Tryz.prog.info? 82).map (·.size) = some ms.length) := by unfold Hid; rw [ez.out]; kernel_rfl
          have ei2 : Hid ((Tryz.prog.info? 82).map (·.size) = some ms.toArray.size) := by unfold Hid; rw [z1.out]; kernel_rfl
          have q0 : Hid (∀ u ∈ ms, u.oneCell' = true) := by unfold Hid; rw [ems]; exact mk_one 1 k
          have q1 : Hid (ms.toArray.all (·.oneCell') = true) := all_oneCell_toArray q0.out
          have AG : Hid (Value.agg (lit1 k).toArray = .agg ms.toArray) := by unfold Hid; rw [ems, mrk1]
          have HC : Hid (Cmp 82 ms ms true) := by unfold Hid; rw [ems]; exact mk_cmp1 k
          have Y0 : Hid (wr.cell? ⟨gl, j * 2, none⟩ = some (.slice a n cap)) := y0
          have S0 : Hid (wr.cell? ⟨bb, 1, none⟩ = some (.slice (some ⟨gl, 0, none⟩) (N 1) p1)) := s0
          clear hr hgl hk ems
          go_wp2_with (first | (refine wpList_store_world rfl 82 _ _ rfl wr.heap.size 0 ms.toArray rfl (Eq.trans rfl AG.out) (by rw [z1.out]; exact there_newm _ _ _ _ (by rfl)) ei2.out q1.out ?_; intro W1 eW1; have F1 : Hid (W1.rowIs wr.heap.size 82 20 (mkF 1 k) ∧ Below wr.heap.size wr W1 ∧ W1.heap.size = wr.heap.size + 1) := (by unfold Hid; rw [eW1]; exact new_stored _ _ _ ms 20 (by rfl) ez.out _ (fun j hj => by rw [HMS.out]; exact mk_get 1 k j hj)); clear eW1))
          obtain ⟨wo, rfl⟩ : ∃ x, x = wr := ⟨wr, rfl⟩
          clear s0 y0 y1
          go_loopw [8] (fun i w' => ∃ q : Nat, q ≤ n ∧ i = .int .i64 q ∧ Below W1.heap.size W1 w') (fun i _ => n - (intOf i).toNat)
          case atStart => exact ⟨0, by omega, rfl, Below.refl _ _⟩
          case round =>
            obtain ⟨q, hq, rfl, b1⟩ := hrel
            have Hb : Hid (Below W1.heap.size W1 wr) := b1
            have HW : Hid (Below wo.heap.size wo wr) := below_then F1.out.2.1 b1 F1.out.2.1.size
            have s0 : wr.cell? ⟨bb, 1, none⟩ = some (.slice (some ⟨gl, 0, none⟩) (N 1) p1) := below_cell HW.out HL.out.2.1 S0.out
            have s1 : wr.cell? ⟨gl, j * 2, none⟩ = some (.slice a n cap) := below_cell HW.out HL.out.1 Y0.out
            clear b1
            by_cases hlq : q < n
            · obtain ⟨g, rfl, hgl, hrg⟩ := HR.out (by omega)
              have L1 : Hid (wr.rangeAt g (q * 20) ms) := by unfold Hid; rw [HMS.out]; exact range_blk (hrg q hlq) (HW.out.block _ hgl)
              have L2 : Hid (wr.rangeAt wo.heap.size 0 ms) := range_blk (mark_range (c := 1) F1.out.1 HMS.out) (Hb.out.block _ (by have := F1.out.2.2; omega))
              have hcmp := HC.out
              unfold Cmp at hcmp
              have i1 : (0 : Int) ≤ (q : Int) := by omega
              have i2 : (q : Int) < (n : Int) := by omega
              clear hrg hgl
              go_wp2_with fail
              refine wp_region_held_drew (S := fun w' => w'.cell? ⟨bb, 1, none⟩ = some (.slice (some ⟨gl, 0, none⟩) (N 1) p1) ∧ w'.cell? ⟨gl, j * 2, none⟩ = some (.slice (some ⟨g, 0, none⟩) n cap) ∧ w'.rangeAt g (q * 20) ms ∧ w'.rangeAt wo.heap.size 0 ms) (by kernel_rfl) ⟨s0, s1, (World.rangeAt_drew _ _ _ _).2 L1.out, (World.rangeAt_drew _ _ _ _).2 L2.out⟩ (fun hS => ?_)
              refine wpAnyH_take (i := 0) (oi := { dst := some 92, op := Op.move (Operand.tmp 0), type := 40, pos := "book.go:101", after := #[], guard := none }) (v := .pointer (some ⟨bb, 0, none⟩)) rfl (by kernel_rfl) (by kernel_rfl) (by kernel_rfl) (fun _ _ _ h => h) (Or.inl ⟨by rfl, fun w h => by go_simp⟩) (by assumption) ?_
              try simp only [Act.put, List.setIfInBounds_toArray, List.set_cons_zero, List.set_cons_succ]
              refine wpAnyH_take (i := 1) (oi := { dst := some 93, op := Op.nilCheck (Operand.tmp 92), type := 0, pos := "book.go:101", after := #[{ on := 0, ground := Ground.data }], guard := none }) (v := .pointer (some ⟨bb, 0, none⟩)) rfl (by kernel_rfl) (by kernel_rfl) (by kernel_rfl) (fun _ _ _ h => h) (Or.inl ⟨by rfl, fun w h => by go_simp⟩) (by assumption) ?_
              try simp only [Act.put, List.setIfInBounds_toArray, List.set_cons_zero, List.set_cons_succ]
              refine wpAnyH_take (i := 2) (oi := { dst := some 94, op := Op.fieldAddr 55 (Operand.tmp 93) 1, type := 0, pos := "book.go:101", after := #[{ on := 1, ground := Ground.data }], guard := none }) (v := .pointer (some ⟨bb, 1, none⟩)) rfl (by kernel_rfl) (by kernel_rfl) (by kernel_rfl) (fun _ _ _ h => h) (Or.inl ⟨by rfl, fun w h => by go_simp⟩) (by assumption) ?_
              try simp only [Act.put, List.setIfInBounds_toArray, List.set_cons_zero, List.set_cons_succ]
              refine wpAnyH_take (i := 3) (oi := { dst := some 95, op := Op.load 51 (Operand.tmp 94), type := 51, pos := "book.go:101", after := #[{ on := 2, ground := Ground.data }], guard := none }) (v := .slice (some ⟨gl, 0, none⟩) (N 1) p1) rfl (by kernel_rfl) (by kernel_rfl) (by kernel_rfl) (fun _ _ _ h => h) (Or.inl ⟨by rfl, fun w h => by have h1 := h.1; go_simp⟩) (by assumption) ?_
              try simp only [Act.put, List.setIfInBounds_toArray, List.set_cons_zero, List.set_cons_succ]
              refine wpAnyH_take (i := 4) (oi := { dst := some 96, op := Op.move (Operand.tmp 6), type := 3, pos := "book.go:101", after := #[], guard := none }) (v := .int .i64 j) rfl (by kernel_rfl) (by kernel_rfl) (by kernel_rfl) (fun _ _ _ h => h) (Or.inl ⟨by rfl, fun w h => by go_simp⟩) (by assumption) ?_
              try simp only [Act.put, List.setIfInBounds_toArray, List.set_cons_zero, List.set_cons_succ]
              refine wpAnyH_take (i := 5) (oi := { dst := some 97, op := Op.indexAddr 51 (Operand.tmp 95) (Operand.tmp 96), type := 0, pos := "book.go:101", after := #[{ on := 3, ground := Ground.data }, { on := 4, ground := Ground.data }], guard := none }) (v := .pointer (some ⟨gl, j * 2, none⟩)) rfl (by kernel_rfl) (by kernel_rfl) (by kernel_rfl) (fun _ _ _ h => h) (Or.inl ⟨by rfl, fun w h => by go_simp⟩) (by assumption) ?_
              try simp only [Act.put, List.setIfInBounds_toArray, List.set_cons_zero, List.set_cons_succ]
              refine wpAnyH_take (i := 6) (oi := { dst := some 98, op := Op.fieldAddr 74 (Operand.tmp 97) 0, type := 0, pos := "book.go:101", after := #[{ on := 5, ground := Ground.data }], guard := none }) (v := .pointer (some ⟨gl, j * 2, none⟩)) rfl (by kernel_rfl) (by kernel_rfl) (by kernel_rfl) (fun _ _ _ h => h) (Or.inl ⟨by rfl, fun w h => by go_simp⟩) (by assumption) ?_
              try simp only [Act.put, List.setIfInBounds_toArray, List.set_cons_zero, List.set_cons_succ]
              refine wpAnyH_take (i := 7) (oi := { dst := some 99, op := Op.load 72 (Operand.tmp 98), type := 72, pos := "book.go:101", after := #[{ on := 6, ground := Ground.data }], guard := none }) (v := .slice (some ⟨g, 0, none⟩) n cap) rfl (by kernel_rfl) (by kernel_rfl) (by kernel_rfl) (fun _ _ _ h => h) (Or.inl ⟨by rfl, fun w h => by have h1 := h.2.1; go_simp⟩) (by assumption) ?_
              try simp only [Act.put, List.setIfInBounds_toArray, List.set_cons_zero, List.set_cons_succ]
              refine wpAnyH_take (i := 8) (oi := { dst := some 100, op := Op.move (Operand.tmp 8), type := 3, pos := "book.go:101", after := #[], guard := none }) (v := .int .i64 q) rfl (by kernel_rfl) (by kernel_rfl) (by kernel_rfl) (fun _ _ _ h => h) (Or.inl ⟨by rfl, fun w h => by go_simp⟩) (by assumption) ?_
              try simp only [Act.put, List.setIfInBounds_toArray, List.set_cons_zero, List.set_cons_succ]
              refine wpAnyH_take (i := 9) (oi := { dst := some 101, op := Op.indexAddr 72 (Operand.tmp 99) (Operand.tmp 100), type := 0, pos := "book.go:101", after := #[{ on := 7, ground := Ground.data }, { on := 8, ground := Ground.data }], guard := none }) (v := .pointer (some ⟨g, q * 20, none⟩)) rfl (by kernel_rfl) (by kernel_rfl) (by kernel_rfl) (fun _ _ _ h => h) (Or.inl ⟨by rfl, fun w h => by go_simp⟩) (by assumption) ?_
              try simp only [Act.put, List.setIfInBounds_toArray, List.set_cons_zero, List.set_cons_succ]
              refine wpAnyH_take (i := 10) (oi := { dst := some 102, op := Op.load 82 (Operand.tmp 101), type := 82, pos := "book.go:101", after := #[{ on := 9, ground := Ground.data }], guard := none }) (v := .agg ms.toArray) rfl (by kernel_rfl) (by kernel_rfl) (by kernel_rfl) (fun _ _ _ h => h) (yieldsIf_load_mid (by rfl) _ _ rfl _ _ rfl _ _ (fun w h => h.2.2.1) Tryz.underlying82 rfl ei.out) (by assumption) ?_
              try simp only [Act.put, List.setIfInBounds_toArray, List.set_cons_zero, List.set_cons_succ]
              refine wpAnyH_take (i := 11) (oi := { dst := some 103, op := Op.load 82 (Operand.tmp 7), type := 82, pos := "book.go:101", after := #[], guard := none }) (v := .agg ms.toArray) rfl (by kernel_rfl) (by kernel_rfl) (by kernel_rfl) (fun _ _ _ h => h) (yieldsIf_load_mid (by rfl) _ _ rfl _ _ rfl _ _ (fun w h => h.2.2.2) Tryz.underlying82 rfl ei.out) (by assumption) ?_
              try simp only [Act.put, List.setIfInBounds_toArray, List.set_cons_zero, List.set_cons_succ]
              refine wpAnyH_take (i := 12) (oi := { dst := some 104, op := Op.binOp BinOp.neq 82 (Operand.tmp 102) (Operand.tmp 103) 82, type := 4, pos := "book.go:101", after := #[{ on := 10, ground := Ground.data }, { on := 11, ground := Ground.data }], guard := none }) (v := .bool false) rfl (by kernel_rfl) (by kernel_rfl) (by kernel_rfl) (fun _ _ _ h => h) (Or.inl ⟨by rfl, fun w h => by go_simp⟩) (by assumption) ?_
              try simp only [Act.put, List.setIfInBounds_toArray, List.set_cons_zero, List.set_cons_succ]
              refine wpAnyH_done (by kernel_rfl) ?_ _
              go_wp2
              exact ⟨⟨q + 1, by omega, by go_num, below_drew Hb.out⟩, by simp [intOf]; omega⟩
            · obtain rfl : q = n := by omega
              go_wp2
              exact ⟨⟨j + 1, by omega, by go_num, below_then Hb1.out HW.out Hb1.out.size⟩, by simp [intOf]; omega⟩
          -- )L1
        · obtain rfl : j = N 1 := by omega
          go_wp2
          clear s0
          go_loopw [9] (fun i w' => ∃ j : Nat, j ≤ N 2 ∧ i = .int .i64 j ∧ Below w.heap.size w w') (fun i _ => N 2 - (intOf i).toNat)
          case atStart => exact ⟨0, by omega, rfl, Hb1.out⟩
          case round =>
            obtain ⟨j, hj, rfl, b1⟩ := hrel
            have Hb2 : Hid (Below w.heap.size w wr) := b1
            have HBr : Hid (BookOk wr bb H V N X A) := HB.out.same b1.size fun k hk _ => b1.block k hk
            have s0 : wr.cell? ⟨bb, 2, none⟩ = some (.slice a2 (N 2) p2) := by rw [← HV.out.2.2.1]; exact HBr.out.lists.cell (by show 2 < 4; omega)
            clear b1
            by_cases hlt : j < N 2
            · obtain ⟨gl, a, n, cap, k, rfl, hgl, y0, y1, hn, hk, hr⟩ := book_entry HBr.out (c := 2) (by omega) hlt HV.out.2.2.1
              -- L2(
              have HR : Hid (0 < n → ∃ g, a = some ⟨g, 0, none⟩ ∧ g < wr.heap.size ∧ ∀ q, q < n → wr.rangeAt g (q * 5) (mrk 2 k)) := hr
              have HL : Hid (gl < wr.heap.size ∧ bb < wr.heap.size ∧ k < N 2) := ⟨hgl, by have := hbb.out; have := Hb2.out.size; omega, hk⟩
              have hk' : k < 7036874417568 := by omega
              have j1 : (0 : Int) ≤ (j : Int) := by omega
              have j2 : (j : Int) < (N 2 : Int) := by omega
              obtain ⟨ms, ems⟩ : ∃ ms, ms = mrk 2 k := ⟨_, rfl⟩
              have HMS : Hid (ms = mrk 2 k) := ems
              have ez : Hid (ms.length = 5) := by unfold Hid; rw [ems]; exact mk_len 2 k
              have z1 : Hid (ms.toArray.size = 5) := by unfold Hid; rw [List.size_toArray]; exact ez.out
              have ei : Hid ((Tryz.prog.info? 87).map (·.size) = some ms.length) := by unfold Hid; rw [ez.out]; kernel_rfl
              have ei2 : Hid ((Tryz.prog.info? 87).map (·.size) = some ms.toArray.size) := by unfold Hid; rw [z1.out]; kernel_rfl
              have q0 : Hid (∀ u ∈ ms, u.oneCell' = true) := by unfold Hid; rw [ems]; exact mk_one 2 k
              have q1 : Hid (ms.toArray.all (·.oneCell') = true) := all_oneCell_toArray q0.out
              have AG : Hid (Value.agg (lit2 k).toArray = .agg ms.toArray) := by unfold Hid; rw [ems, mrk2]
              have HC : Hid (Cmp 87 ms ms true) := by unfold Hid; rw [ems]; exact mk_cmp2 k
              have Y0 : Hid (wr.cell? ⟨gl, j * 2, none⟩ = some (.slice a n cap)) := y0
              have S0 : Hid (wr.cell? ⟨bb, 2, none⟩ = some (.slice (some ⟨gl, 0, none⟩) (N 2) p2)) := s0
              clear hr hgl hk ems
              go_wp2_with (first | (refine wpList_store_world rfl 87 _ _ rfl wr.heap.size 0 ms.toArray rfl (Eq.trans rfl AG.out) (by rw [z1.out]; exact there_newm _ _ _ _ (by rfl)) ei2.out q1.out ?_; intro W1 eW1; have F1 : Hid (W1.rowIs wr.heap.size 87 5 (mkF 2 k) ∧ Below wr.heap.size wr W1 ∧ W1.heap.size = wr.heap.size + 1) := (by unfold Hid; rw [eW1]; exact new_stored _ _ _ ms 5 (by rfl) ez.out _ (fun j hj => by rw [HMS.out]; exact mk_get 2 k j hj)); clear eW1))
              obtain ⟨wo, rfl⟩ : ∃ x, x = wr := ⟨wr, rfl⟩
              clear s0 y0 y1
              go_loopw [11] (fun i w' => ∃ q : Nat, q ≤ n ∧ i = .int .i64 q ∧ Below W1.heap.size W1 w') (fun i _ => n - (intOf i).toNat)
              case atStart => exact ⟨0, by omega, rfl, Below.refl _ _⟩
              case round =>
                obtain ⟨q, hq, rfl, b1⟩ := hrel
                have Hb : Hid (Below W1.heap.size W1 wr) := b1
                have HW : Hid (Below wo.heap.size wo wr) := below_then F1.out.2.1 b1 F1.out.2.1.size
                have s0 : wr.cell? ⟨bb, 2, none⟩ = some (.slice (some ⟨gl, 0, none⟩) (N 2) p2) := below_cell HW.out HL.out.2.1 S0.out
                have s1 : wr.cell? ⟨gl, j * 2, none⟩ = some (.slice a n cap) := below_cell HW.out HL.out.1 Y0.out
                clear b1
                by_cases hlq : q < n
                · obtain ⟨g, rfl, hgl, hrg⟩ := HR.out (by omega)
                  have L1 : Hid (wr.rangeAt g (q * 5) ms) := by unfold Hid; rw [HMS.out]; exact range_blk (hrg q hlq) (HW.out.block _ hgl)
                  have L2 : Hid (wr.rangeAt wo.heap.size 0 ms) := range_blk (mark_range (c := 2) F1.out.1 HMS.out) (Hb.out.block _ (by have := F1.out.2.2; omega))
                  have hcmp := HC.out
                  unfold Cmp at hcmp
                  have i1 : (0 : Int) ≤ (q : Int) := by omega
                  have i2 : (q : Int) < (n : Int) := by omega
                  clear hrg hgl
                  go_wp2_with fail
                  refine wp_region_held_drew (S := fun w' => w'.cell? ⟨bb, 2, none⟩ = some (.slice (some ⟨gl, 0, none⟩) (N 2) p2) ∧ w'.cell? ⟨gl, j * 2, none⟩ = some (.slice (some ⟨g, 0, none⟩) n cap) ∧ w'.rangeAt g (q * 5) ms ∧ w'.rangeAt wo.heap.size 0 ms) (by kernel_rfl) ⟨s0, s1, (World.rangeAt_drew _ _ _ _).2 L1.out, (World.rangeAt_drew _ _ _ _).2 L2.out⟩ (fun hS => ?_)
                  refine wpAnyH_take (i := 0) (oi := { dst := some 137, op := Op.move (Operand.tmp 0), type := 40, pos := "book.go:109", after := #[], guard := none }) (v := .pointer (some ⟨bb, 0, none⟩)) rfl (by kernel_rfl) (by kernel_rfl) (by kernel_rfl) (fun _ _ _ h => h) (Or.inl ⟨by rfl, fun w h => by go_simp⟩) (by assumption) ?_
                  try simp only [Act.put, List.setIfInBounds_toArray, List.set_cons_zero, List.set_cons_succ]
                  refine wpAnyH_take (i := 1) (oi := { dst := some 138, op := Op.nilCheck (Operand.tmp 137), type := 0, pos := "book.go:109", after := #[{ on := 0, ground := Ground.data }], guard := none }) (v := .pointer (some ⟨bb, 0, none⟩)) rfl (by kernel_rfl) (by kernel_rfl) (by kernel_rfl) (fun _ _ _ h => h) (Or.inl ⟨by rfl, fun w h => by go_simp⟩) (by assumption) ?_
                  try simp only [Act.put, List.setIfInBounds_toArray, List.set_cons_zero, List.set_cons_succ]
                  refine wpAnyH_take (i := 2) (oi := { dst := some 139, op := Op.fieldAddr 55 (Operand.tmp 138) 2, type := 0, pos := "book.go:109", after := #[{ on := 1, ground := Ground.data }], guard := none }) (v := .pointer (some ⟨bb, 2, none⟩)) rfl (by kernel_rfl) (by kernel_rfl) (by kernel_rfl) (fun _ _ _ h => h) (Or.inl ⟨by rfl, fun w h => by go_simp⟩) (by assumption) ?_
                  try simp only [Act.put, List.setIfInBounds_toArray, List.set_cons_zero, List.set_cons_succ]
                  refine wpAnyH_take (i := 3) (oi := { dst := some 140, op := Op.load 52 (Operand.tmp 139), type := 52, pos := "book.go:109", after := #[{ on := 2, ground := Ground.data }], guard := none }) (v := .slice (some ⟨gl, 0, none⟩) (N 2) p2) rfl (by kernel_rfl) (by kernel_rfl) (by kernel_rfl) (fun _ _ _ h => h) (Or.inl ⟨by rfl, fun w h => by have h1 := h.1; go_simp⟩) (by assumption) ?_
                  try simp only [Act.put, List.setIfInBounds_toArray, List.set_cons_zero, List.set_cons_succ]
                  refine wpAnyH_take (i := 4) (oi := { dst := some 141, op := Op.move (Operand.tmp 9), type := 3, pos := "book.go:109", after := #[], guard := none }) (v := .int .i64 j) rfl (by kernel_rfl) (by kernel_rfl) (by kernel_rfl) (fun _ _ _ h => h) (Or.inl ⟨by rfl, fun w h => by go_simp⟩) (by assumption) ?_
                  try simp only [Act.put, List.setIfInBounds_toArray, List.set_cons_zero, List.set_cons_succ]
                  refine wpAnyH_take (i := 5) (oi := { dst := some 142, op := Op.indexAddr 52 (Operand.tmp 140) (Operand.tmp 141), type := 0, pos := "book.go:109", after := #[{ on := 3, ground := Ground.data }, { on := 4, ground := Ground.data }], guard := none }) (v := .pointer (some ⟨gl, j * 2, none⟩)) rfl (by kernel_rfl) (by kernel_rfl) (by kernel_rfl) (fun _ _ _ h => h) (Or.inl ⟨by rfl, fun w h => by go_simp⟩) (by assumption) ?_
                  try simp only [Act.put, List.setIfInBounds_toArray, List.set_cons_zero, List.set_cons_succ]
                  refine wpAnyH_take (i := 6) (oi := { dst := some 143, op := Op.fieldAddr 85 (Operand.tmp 142) 0, type := 0, pos := "book.go:109", after := #[{ on := 5, ground := Ground.data }], guard := none }) (v := .pointer (some ⟨gl, j * 2, none⟩)) rfl (by kernel_rfl) (by kernel_rfl) (by kernel_rfl) (fun _ _ _ h => h) (Or.inl ⟨by rfl, fun w h => by go_simp⟩) (by assumption) ?_
                  try simp only [Act.put, List.setIfInBounds_toArray, List.set_cons_zero, List.set_cons_succ]
                  refine wpAnyH_take (i := 7) (oi := { dst := some 144, op := Op.load 83 (Operand.tmp 143), type := 83, pos := "book.go:109", after := #[{ on := 6, ground := Ground.data }], guard := none }) (v := .slice (some ⟨g, 0, none⟩) n cap) rfl (by kernel_rfl) (by kernel_rfl) (by kernel_rfl) (fun _ _ _ h => h) (Or.inl ⟨by rfl, fun w h => by have h1 := h.2.1; go_simp⟩) (by assumption) ?_
                  try simp only [Act.put, List.setIfInBounds_toArray, List.set_cons_zero, List.set_cons_succ]
                  refine wpAnyH_take (i := 8) (oi := { dst := some 145, op := Op.move (Operand.tmp 11), type := 3, pos := "book.go:109", after := #[], guard := none }) (v := .int .i64 q) rfl (by kernel_rfl) (by kernel_rfl) (by kernel_rfl) (fun _ _ _ h => h) (Or.inl ⟨by rfl, fun w h => by go_simp⟩) (by assumption) ?_
                  try simp only [Act.put, List.setIfInBounds_toArray, List.set_cons_zero, List.set_cons_succ]
                  refine wpAnyH_take (i := 9) (oi := { dst := some 146, op := Op.indexAddr 83 (Operand.tmp 144) (Operand.tmp 145), type := 0, pos := "book.go:109", after := #[{ on := 7, ground := Ground.data }, { on := 8, ground := Ground.data }], guard := none }) (v := .pointer (some ⟨g, q * 5, none⟩)) rfl (by kernel_rfl) (by kernel_rfl) (by kernel_rfl) (fun _ _ _ h => h) (Or.inl ⟨by rfl, fun w h => by go_simp⟩) (by assumption) ?_
                  try simp only [Act.put, List.setIfInBounds_toArray, List.set_cons_zero, List.set_cons_succ]
                  refine wpAnyH_take (i := 10) (oi := { dst := some 147, op := Op.load 87 (Operand.tmp 146), type := 87, pos := "book.go:109", after := #[{ on := 9, ground := Ground.data }], guard := none }) (v := .agg ms.toArray) rfl (by kernel_rfl) (by kernel_rfl) (by kernel_rfl) (fun _ _ _ h => h) (yieldsIf_load_mid (by rfl) _ _ rfl _ _ rfl _ _ (fun w h => h.2.2.1) Tryz.underlying87 rfl ei.out) (by assumption) ?_
                  try simp only [Act.put, List.setIfInBounds_toArray, List.set_cons_zero, List.set_cons_succ]
                  refine wpAnyH_take (i := 11) (oi := { dst := some 148, op := Op.load 87 (Operand.tmp 10), type := 87, pos := "book.go:109", after := #[], guard := none }) (v := .agg ms.toArray) rfl (by kernel_rfl) (by kernel_rfl) (by kernel_rfl) (fun _ _ _ h => h) (yieldsIf_load_mid (by rfl) _ _ rfl _ _ rfl _ _ (fun w h => h.2.2.2) Tryz.underlying87 rfl ei.out) (by assumption) ?_
                  try simp only [Act.put, List.setIfInBounds_toArray, List.set_cons_zero, List.set_cons_succ]
                  refine wpAnyH_take (i := 12) (oi := { dst := some 149, op := Op.binOp BinOp.neq 87 (Operand.tmp 147) (Operand.tmp 148) 87, type := 4, pos := "book.go:109", after := #[{ on := 10, ground := Ground.data }, { on := 11, ground := Ground.data }], guard := none }) (v := .bool false) rfl (by kernel_rfl) (by kernel_rfl) (by kernel_rfl) (fun _ _ _ h => h) (Or.inl ⟨by rfl, fun w h => by go_simp⟩) (by assumption) ?_
                  try simp only [Act.put, List.setIfInBounds_toArray, List.set_cons_zero, List.set_cons_succ]
                  refine wpAnyH_done (by kernel_rfl) ?_ _
                  go_wp2
                  exact ⟨⟨q + 1, by omega, by go_num, below_drew Hb.out⟩, by simp [intOf]; omega⟩
                · obtain rfl : q = n := by omega
                  go_wp2
                  exact ⟨⟨j + 1, by omega, by go_num, below_then Hb2.out HW.out Hb2.out.size⟩, by simp [intOf]; omega⟩
              -- )L2
            · obtain rfl : j = N 2 := by omega
              go_wp2
              clear s0
              go_loopw [12] (fun i w' => i = .int .i64 0 ∧ Below w.heap.size w w') (fun i _ => 0)
              case atStart => exact ⟨rfl, Hb2.out⟩
              case round =>
                obtain ⟨rfl, b1⟩ := hrel
                have Hb3 : Hid (Below w.heap.size w wr) := b1
                have s0 : wr.cell? ⟨bb, 3, none⟩ = some (.slice none 0 0) := by
                  rw [← HV.out.2.2.2]
                  exact (HB.out.same b1.size fun k hk _ => b1.block k hk).lists.cell (by show 3 < 4; omega)
                clear b1
                go_wp2
                go_ret
                exact ⟨rfl, Hb3.out⟩
end Go.Proofs.YtcgabodkegcpgaaGreatDoor
