/- One act on both sides; the end of a script. -/
import Derived.Test.YtcgabodkegcpgaaGreatDoorPl1
import Derived.Test.YtcgabodkegcpgaaGreatDoorLve
import Derived.Test.YtcgabodkegcpgaaGreatDoorAll
import Derived.Test.YtcgabodkegcpgaaGreatDoorRfd
import Derived.Test.YtcgabodkegcpgaaGreatDoorNew1
namespace Go.Proofs.YtcgabodkegcpgaaGreatDoor
open Go.RowKit
set_option linter.unusedVariables false
set_option linter.unusedSimpArgs false
attribute [local go_sem ↓] Go.wp_at_zero Go.wp_at_succ

section
variable {w0 w w' : World} {d : Bl} {K : Ker} {r : Rk} {V : Nat → Value} {N : Nat → Nat} {X : Nat → List Value} {A : Nat → Option (Nat × Nat × Nat)}
theorem BookOk.kcall (Z : AllOk w0 w d K r V N X A) (k : Keeps d.bf d.bs d.bd w w') : BookOk w' d.bb d.H V N X A := by
  have b := Z.core.b2
  have k1 := Z.core.kin d.bf (by simp); have k2 := Z.core.kin d.bs (by simp); have k3 := Z.core.kin d.bd (by simp)
  exact Z.book.same k.size fun q hq e => k.block q hq (by omega) (by omega) (by omega)
set_option maxRecDepth 100000 in
set_option maxHeartbeats 10000000 in
theorem act_any (Z : AllOk w0 w d K r V N X A) (hN : ∀ c, c < 3 → N c ≤ 7036874417564) (ka s cl a0 a1 a2 o0 o1 o2 : Int) (ot : Bool) (hl : -9223372036854775808 ≤ cl ∧ cl < 9223372036854775808) :
    Calls Tryz.prog 9 #[.pointer (some ⟨d.bw, 0, none⟩), .agg (actCells ka s cl a0 a1 a2 o0 o1 o2 ot).toArray] w fun e w' => e = .returned (.bool true) ∧ ∃ K' r' V' N' X' A', AllOk w0 w' d K' r' V' N' X' A' ∧ ∀ c, c < 3 → N' c ≤ N c + 4 := by
  have HZ : Hid (AllOk w0 w d K r V N X A) := Z
  have HN : Hid (∀ c, c < 3 → N c ≤ 7036874417564) := hN
  have HL : Hid (-9223372036854775808 ≤ cl ∧ cl < 9223372036854775808) := hl
  obtain ⟨W, eW⟩ : ∃ W, W = w.alloc (.cells (actCells ka s cl a0 a1 a2 o0 o1 o2 ot).toArray 29) := ⟨_, rfl⟩
  have HB : Hid (Below w.heap.size w W ∧ W.heap.size = w.heap.size + 1) := by unfold Hid; rw [eW]; exact ⟨(Below.refl _ _).alloc (Nat.le_refl _) _, by simp⟩
  have HW : Hid (AllOk w0 W d K r V N X A) := Z.below HB.out.1
  have HR : Hid (∀ j v, (actCells ka s cl a0 a1 a2 o0 o1 o2 ot)[j]? = some v → W.cell? ⟨w.heap.size, j, none⟩ = some v) := fun j v hv => by
    rw [eW, World.cell?_alloc_at _ _ _ _ rfl]; simpa using hv
  have v0 : W.cell? ⟨w.heap.size, 0, none⟩ = some (.int .i64 ka) := HR.out 0 _ rfl
  have v1 : W.cell? ⟨w.heap.size, 1, none⟩ = some (.int .i64 s) := HR.out 1 _ rfl
  have v2 : W.cell? ⟨w.heap.size, 2, none⟩ = some (.int .i64 cl) := HR.out 2 _ rfl
  have v3 : W.cell? ⟨w.heap.size, 3, none⟩ = some (.int .i64 a0) := HR.out 3 _ rfl
  have v4 : W.cell? ⟨w.heap.size, 4, none⟩ = some (.int .i64 a1) := HR.out 4 _ rfl
  have v5 : W.cell? ⟨w.heap.size, 5, none⟩ = some (.int .i64 a2) := HR.out 5 _ rfl
  have x0 := HW.out.core.x0
  have x2 := HW.out.core.x2
  have EW : Hid (w.alloc (.cells (actCells ka s cl a0 a1 a2 o0 o1 o2 ot).toArray 29) = W) := eW.symm
  have v0' := v0
  have x2' := x2
  rw [eW] at v0' x2'
  clear Z hN hl eW
  go_enter Tryz.func9, Tryz.ntmps9
  by_cases h1 : ka = 1
  · subst h1
    go_wp2_with fail
    rw [EW.out]
    clear v0' x2' EW x2
    go_region_held3 (fun w' => w'.cell? ⟨d.bw, 0, none⟩ = some (.pointer (some ⟨d.bk, 0, none⟩)) ∧ w'.cell? ⟨w.heap.size, 1, none⟩ = some (.int .i64 s) ∧ w'.cell? ⟨w.heap.size, 2, none⟩ = some (.int .i64 cl) ∧ w'.cell? ⟨w.heap.size, 3, none⟩ = some (.int .i64 a0) ∧ w'.cell? ⟨w.heap.size, 4, none⟩ = some (.int .i64 a1) ∧ w'.cell? ⟨w.heap.size, 5, none⟩ = some (.int .i64 a2)) ((repeat' apply And.intro) <;> (first | assumption | (go_keep; done)))
      (first | (go_at_call 16; refine (call_all (HW.out.below (below_drew (Below.refl _ _))).core.rep (HW.out.below (below_drew (Below.refl _ _))).core.tab HW.out.inv.good s cl a0 a1 a2).mono ?_; rintro e w4 ⟨rfl, R4, q4⟩; have H4 : Hid (Core w0 w4 d (kCall K s cl a0 a1 a2).K r ∧ BookOk w4 d.bb d.H V N X A) := ⟨(HW.out.below (below_drew (Below.refl _ _))).core.kcall R4 q4, BookOk.kcall (HW.out.below (below_drew (Below.refl _ _))) q4⟩; have zz : w4.heap[w.heap.size]? = W.heap[w.heap.size]? := q4.block _ (by show w.heap.size < W.heap.size; have := HB.out.2; omega) (by have := HW.out.core.kin d.bf (by simp); have := HZ.out.core.hH; have := HZ.out.core.b2; omega) (by have := HW.out.core.kin d.bs (by simp); have := HZ.out.core.hH; have := HZ.out.core.b2; omega) (by have := HW.out.core.kin d.bd (by simp); have := HZ.out.core.hH; have := HZ.out.core.b2; omega); have c0 := H4.out.1.x0; have c1 : w4.cell? ⟨w.heap.size, 1, none⟩ = some (.int .i64 s) := (World.cell?_of_block (w := W) (a := ⟨w.heap.size, 1, none⟩) zz).trans v1; have c2 : w4.cell? ⟨w.heap.size, 2, none⟩ = some (.int .i64 cl) := (World.cell?_of_block (w := W) (a := ⟨w.heap.size, 2, none⟩) zz).trans v2; have c3 : w4.cell? ⟨w.heap.size, 3, none⟩ = some (.int .i64 a0) := (World.cell?_of_block (w := W) (a := ⟨w.heap.size, 3, none⟩) zz).trans v3; have c4 : w4.cell? ⟨w.heap.size, 4, none⟩ = some (.int .i64 a1) := (World.cell?_of_block (w := W) (a := ⟨w.heap.size, 4, none⟩) zz).trans v4; have c5' : w4.cell? ⟨w.heap.size, 5, none⟩ = some (.int .i64 a2) := (World.cell?_of_block (w := W) (a := ⟨w.heap.size, 5, none⟩) zz).trans v5; have c6 := H4.out.1.x1; clear R4 q4 zz))
    have HD : Hid (Core w0 w4.drew d (kCall K s cl a0 a1 a2).K r ∧ BookOk w4.drew d.bb d.H V N X A) := ⟨H4.out.1.chg (P := fun _ => False) (Chg.of_below (below_drew (Below.refl _ _))) (fun _ _ _ h => h), H4.out.2.same (Nat.le_refl _) fun _ _ _ => rfl⟩
    have HI : Hid (Inv (kCall K s cl a0 a1 a2).K ∧ Own (kCall K s cl a0 a1 a2).K ∧ Neat (kCall K s cl a0 a1 a2).K ∧ Ended (kCall K s cl a0 a1 a2).K) := ⟨inv_call HZ.out.inv s cl a0 a1 a2, own_call HZ.out.own HZ.out.inv.good s cl a0 a1 a2, neat_call HZ.out.neat HZ.out.own HZ.out.inv.good s cl a0 a1 a2, ended_call HZ.out.ended HZ.out.inv.good s cl a0 a1 a2⟩
    have HS4 : Hid (w.heap.size < w4.heap.size) := World.block_lt_of_cell? w4 ⟨w.heap.size, 1, none⟩ c1
    have RC := rcall_keep HD.out.1.mem HZ.out.rel HZ.out.own HZ.out.inv HZ.out.neat HZ.out.ended s cl a0 a1 a2 HL.out
    generalize kCall K s cl a0 a1 a2 = O at *
    obtain ⟨K5, nv, ev⟩ := O
    have HRC : Hid (Calls Tryz.prog 17 #[.pointer (some ⟨d.B.b, 0, none⟩), .int .i64 s, .int .i64 cl, .agg #[.int .i64 a0, .int .i64 a1, .int .i64 a2]] w4.drew (RK d.B r w4.drew ⟨K5, nv, ev⟩)) := RC
    clear RC x0 v0 v1 v2 v3 v4 v5 c0
    go_wp2_with fail
    go_region_held3 (fun w' => w'.cell? ⟨d.bw, 1, none⟩ = some (.pointer (some ⟨d.B.b, 0, none⟩)) ∧ w'.cell? ⟨w.heap.size, 1, none⟩ = some (.int .i64 s) ∧ w'.cell? ⟨w.heap.size, 2, none⟩ = some (.int .i64 cl) ∧ w'.cell? ⟨w.heap.size, 3, none⟩ = some (.int .i64 a0) ∧ w'.cell? ⟨w.heap.size, 4, none⟩ = some (.int .i64 a1) ∧ w'.cell? ⟨w.heap.size, 5, none⟩ = some (.int .i64 a2)) ((repeat' apply And.intro) <;> (first | assumption | (go_keep; done)))
      (first | (go_at_call 17; refine HRC.out.mono ?_; rintro e w5 ⟨rfl, ⟨r5, m5, u5, n5⟩, c5⟩; have H5 : Hid (AllOk w0 w5 d K5 r5 V N X A) := ⟨HD.out.1.rcall m5 n5 c5, u5, HI.out.1, HI.out.2.1, HI.out.2.2.1, HI.out.2.2.2, HD.out.2.chg c5 (fun k hk e hp => by have := HD.out.1.rin k hp; have := HD.out.1.b2; omega)⟩; have zz : w5.heap[w.heap.size]? = w4.heap[w.heap.size]? := c5.block _ HS4.out (fun hp => by have := HD.out.1.rin _ hp; have := HD.out.1.b2; have := HZ.out.core.hH; omega); have d0 := H5.out.core.x1; have d1 : w5.cell? ⟨w.heap.size, 1, none⟩ = some (.int .i64 s) := (World.cell?_of_block (w := w4) (a := ⟨w.heap.size, 1, none⟩) zz).trans c1; have d2 : w5.cell? ⟨w.heap.size, 2, none⟩ = some (.int .i64 cl) := (World.cell?_of_block (w := w4) (a := ⟨w.heap.size, 2, none⟩) zz).trans c2; have d3 : w5.cell? ⟨w.heap.size, 3, none⟩ = some (.int .i64 a0) := (World.cell?_of_block (w := w4) (a := ⟨w.heap.size, 3, none⟩) zz).trans c3; have d4 : w5.cell? ⟨w.heap.size, 4, none⟩ = some (.int .i64 a1) := (World.cell?_of_block (w := w4) (a := ⟨w.heap.size, 4, none⟩) zz).trans c4; have d5 : w5.cell? ⟨w.heap.size, 5, none⟩ = some (.int .i64 a2) := (World.cell?_of_block (w := w4) (a := ⟨w.heap.size, 5, none⟩) zz).trans c5'; clear m5 u5 n5 c5 zz))
    go_wp2
    go_ret
    exact ⟨rfl, K5, r5, V, N, X, A, H5.out, fun c hc => by omega⟩
  · by_cases h6 : ka = 6
    · subst h6
      go_wp2_with fail
      rw [EW.out]
      refine (wstate_any HW.out HN.out).mono ?_
      rintro e w4 ⟨rfl, V4, N4, X4, A4, Z4, n4⟩
      have H4 : Hid (∃ V4 N4 X4 A4, AllOk w0 w4 d K r V4 N4 X4 A4 ∧ ∀ c, c < 3 → N4 c ≤ N c + 4) := ⟨V4, N4, X4, A4, Z4, fun c hc => by rw [n4 c hc]; exact Nat.le_refl _⟩
      clear Z4 n4
      go_wp2
      go_ret
      exact ⟨rfl, K, r, H4.out⟩
    · have e1 : (ka == 1) = false := by simpa using h1
      have e6 : (ka == 6) = false := by simpa using h6
      clear h1 h6
      go_wp2
      rw [EW.out]
      go_ret
      exact ⟨rfl, K, r, V, N, X, A, HW.out, fun c hc => by omega⟩
end
end Go.Proofs.YtcgabodkegcpgaaGreatDoor
namespace Go.Proofs.YtcgabodkegcpgaaGreatDoor
open Go.RowKit
set_option linter.unusedVariables false
set_option linter.unusedSimpArgs false
attribute [local go_sem ↓] Go.wp_at_zero Go.wp_at_succ

section
variable {w0 w w' : World} {d : Bl} {K : Ker} {r : Rk} {V : Nat → Value} {N : Nat → Nat} {X : Nat → List Value} {A : Nat → Option (Nat × Nat × Nat)}
set_option maxRecDepth 100000 in
set_option maxHeartbeats 10000000 in
theorem last_any (Z : AllOk w0 w d K r V N X A) (hN : ∀ c, c < 3 → N c ≤ 7036874417560) :
    Calls Tryz.prog 11 #[.pointer (some ⟨d.bw, 0, none⟩)] w fun e w' => e = .returned (.bool true) ∧ Below w0.heap.size w0 w' := by
  have HZ : Hid (AllOk w0 w d K r V N X A) := Z
  have HN : Hid (∀ c, c < 3 → N c ≤ 7036874417560) := hN
  clear Z hN
  go_enter Tryz.func11, Tryz.ntmps11
  go_wp2
  go_loopw [3, 4] (fun ok i w' => ∃ (k : Nat) (V : Nat → Value) (N : Nat → Nat) (X : Nat → List Value) (A : Nat → Option (Nat × Nat × Nat)), k ≤ 2 ∧ i = .int .i64 k ∧ ok = .bool true ∧ AllOk w0 w' d K r V N X A ∧ ∀ c, c < 3 → N c ≤ 7036874417560 + 4 * k) (fun ok i _ => 2 - (intOf i).toNat)
  case atStart => exact ⟨0, V, N, X, A, by omega, rfl, rfl, HZ.out, fun c hc => by have := HN.out c hc; omega⟩
  case round =>
    clear HZ HN
    obtain ⟨k, V, N, X, A, hk, rfl, rfl, z1, n1⟩ := hrel
    have HZ : Hid (AllOk w0 wr d K r V N X A) := z1
    have HN : Hid (∀ c, c < 3 → N c ≤ 7036874417560 + 4 * k) := n1
    have x2 := z1.core.x2
    clear z1 n1
    by_cases hlt : k < 2
    · go_wp2_with fail
      refine (wstate_any HZ.out (fun c hc => by have := HN.out c hc; omega)).mono ?_
      rintro e w4 ⟨rfl, V4, N4, X4, A4, Z4, n4⟩
      have H4 : Hid (AllOk w0 w4 d K r V4 N4 X4 A4 ∧ ∀ c, c < 3 → N4 c ≤ 7036874417560 + 4 * (k + 1)) := ⟨Z4, fun c hc => by have := HN.out c hc; have := n4 c hc; omega⟩
      clear Z4 n4 x2
      go_wp2
      go_loopw [3, 6] (fun ok i w' => ok = .bool true ∧ i = .int .i64 0 ∧ AllOk w0 w' d K r V4 N4 X4 A4) (fun ok i _ => 0)
      case atStart => exact ⟨rfl, rfl, H4.out.1⟩
      case round =>
        obtain ⟨rfl, rfl, z1⟩ := hrel
        have HZ5 : Hid (AllOk w0 wr d K r V4 N4 X4 A4) := z1
        have x2 := z1.core.x2
        clear z1
        go_wp2
        exact ⟨⟨k + 1, V4, N4, X4, A4, by omega, by go_num, rfl, HZ5.out, H4.out.2⟩, by simp [intOf]; omega⟩
    · obtain rfl : k = 2 := by omega
      go_wp2
      clear x2
      go_loopw [9] (fun i w' => i = .int .i64 0 ∧ AllOk w0 w' d K r V N X A) (fun i _ => 0)
      case atStart => exact ⟨rfl, HZ.out⟩
      case round =>
        obtain ⟨rfl, z1⟩ := hrel
        have HZ5 : Hid (AllOk w0 wr d K r V N X A) := z1
        have x2 := z1.core.x2
        have x4 := z1.core.x4
        clear z1
        go_wp2_with fail
        refine (looks_any HZ5.out.book (fun c hc => by have := HN.out c hc; omega)).mono ?_
        rintro e w4 ⟨rfl, b4⟩
        have HZ6 : Hid (AllOk w0 w4 d K r V N X A) := HZ5.out.below b4
        clear b4
        go_wp2
        go_ret
        exact ⟨rfl, HZ6.out.core.bel⟩
end

/-- What a new book is. -/
theorem book_new (w : World) (bb H : Nat) (hb : w.rowIs bb 55 4 (fun _ => .slice none 0 0)) (h : bb < H) (hH : H ≤ w.heap.size) : BookOk w bb H (fun _ => .slice none 0 0) (fun _ => 0) (fun _ => []) (fun _ => none) :=
  ⟨⟨hb, fun c hc => World.ownsRow_nil _ _ _ _, fun _ _ _ _ _ => Or.inl rfl, fun _ _ => by simp [Value.ownBlock]⟩, h, hH, rfl, fun g c k L e => (by cases e), fun c hc i hi => (by omega)⟩
theorem core_new {w0 w1 w2 W : World} {bk bf bs bd : Nat} {B : RB} {K : Ker} {r : Rk} (hz : w0.heap.size ≤ w1.heap.size) (T : Tab w0) (R : Rep w1 bk bf bs bd K) (b1 : Below w0.heap.size w0 w1) (hk : w0.heap.size ≤ bk ∧ w0.heap.size ≤ bf ∧ w0.heap.size ≤ bs ∧ w0.heap.size ≤ bd)
    (M : RMem w2 B r) (b2 : Below w1.heap.size w1 w2) (hr : w1.heap.size ≤ B.b ∧ w1.heap.size ≤ B.bw ∧ w1.heap.size ≤ B.bp ∧ ∀ q, w1.heap.size ≤ B.bq q)
    (b3 : Below w2.heap.size w2 W) (hs : w2.heap.size + 2 ≤ W.heap.size) (hW : W.rowIs (w2.heap.size + 1) 42 5 (fun j => if j = 0 then .pointer (some ⟨bk, 0, none⟩) else if j = 1 then .pointer (some ⟨B.b, 0, none⟩) else if j = 4 then .pointer (some ⟨w2.heap.size, 0, none⟩) else .slice none 0 0)) :
    Core w0 W ⟨bk, bf, bs, bd, B, w2.heap.size + 1, w2.heap.size, w2.heap.size + 2, w1.heap.size, w2.heap.size⟩ K r := by
  have s2 := b2.size
  have bb : Below w1.heap.size w1 W := below_then b2 b3 b2.size
  have b0 : Below w0.heap.size w0 W := below_then b1 bb b1.size
  refine ⟨R.same bb.size fun k hk _ => bb.block k hk, M.same b3.size fun k hk _ => b3.block k hk, T.same (b0.block 0 T.lt), b0, T.lt, fun k e => ?_, fun k e => ?_, ?_, hs, hW.cell (i := 0) (by omega), hW.cell (i := 1) (by omega), hW.cell (i := 2) (by omega), hW.cell (i := 4) (by omega)⟩
  · have := R.lk; have := R.lf; have := R.ls; have := R.ld
    rcases e with e | e | e | e
    all_goals (show w0.heap.size ≤ k ∧ k < w1.heap.size; simp only at e; omega)
  · show w1.heap.size ≤ k ∧ k < w2.heap.size
    have := M.lb; have := M.lw; have := M.lp
    rcases e with e | e | e | ⟨h0, q, hq, e⟩
    · have e : k = B.b := e; omega
    · have e : k = B.bw := e; omega
    · have e : k = B.bp := e; omega
    · have e : k = B.bq q := e
      have := M.lq q hq h0; have := hr.2.2.2 q; omega
  · show w2.heap.size ≤ w2.heap.size ∧ w2.heap.size ≤ w2.heap.size + 1 ∧ w2.heap.size + 1 < w2.heap.size + 2 ∧ w2.heap.size < w2.heap.size + 2 ∧ w2.heap.size ≠ w2.heap.size + 1 ∧ w0.heap.size ≤ w1.heap.size ∧ w1.heap.size ≤ w2.heap.size
    omega
theorem all_new {w W w1 w2 : World} {bk bf bs bd nF nS nD : Nat} {B : RB} {r : Rk} (T : Tab w) (b0 : Below w.heap.size w W) (z0 : W.heap.size = w.heap.size + 1) (R : Rep w1 bk bf bs bd (kNew nF nS nD)) (b1 : Below W.heap.size W w1) (hk : W.heap.size ≤ bk ∧ W.heap.size ≤ bf ∧ W.heap.size ≤ bs ∧ W.heap.size ≤ bd)
    (M : RMem w2 B r) (U : Rel (kNew nF nS nD) r) (b2 : Below w1.heap.size w1 w2) (hr : w1.heap.size ≤ B.b ∧ w1.heap.size ≤ B.bw ∧ w1.heap.size ≤ B.bp ∧ ∀ q, w1.heap.size ≤ B.bq q) (h1 : 2 ≤ nF) (h3 : 1 ≤ nS) (h4 : nS ≤ 6) :
    AllOk w ((w2.alloc (.cells #[.slice none 0 0, .slice none 0 0, .slice none 0 0, .slice none 0 0] 55)).alloc (.cells #[.pointer (some ⟨bk, 0, none⟩), .pointer (some ⟨B.b, 0, none⟩), .slice none 0 0, .slice none 0 0, .pointer (some ⟨w2.heap.size, 0, none⟩)] 42)) ⟨bk, bf, bs, bd, B, w2.heap.size + 1, w2.heap.size, w2.heap.size + 2, w1.heap.size, w2.heap.size⟩ (kNew nF nS nD) r (fun _ => .slice none 0 0) (fun _ => 0) (fun _ => []) (fun _ => none) := by
  have s1 := b1.size
  refine ⟨core_new (by omega) T R (below_then b0 b1 (by omega)) ⟨by omega, by omega, by omega, by omega⟩ M b2 hr (((Below.refl _ _).alloc (Nat.le_refl _) _).alloc (by simp) _) (by simp) ?_, U, inv_new nF nS nD h1 h4, own_new nF nS nD h1 h3, neat_new nF nS nD, ended_new nF nS nD, book_new _ _ _ ?_ (by show w2.heap.size < w2.heap.size + 2; omega) (by simp)⟩
  · refine (rowIs_new2 w2 _ _ _).congr fun j hj => ?_
    have hj' : j < 5 := hj
    obtain rfl | rfl | rfl | rfl | rfl : j = 0 ∨ j = 1 ∨ j = 2 ∨ j = 3 ∨ j = 4 := by omega
    all_goals rfl
  · refine ((rowIs_new w2 _ _).alloc _).congr fun j hj => ?_
    have hj' : j < 4 := hj
    obtain rfl | rfl | rfl | rfl : j = 0 ∨ j = 1 ∨ j = 2 ∨ j = 3 := by omega
    all_goals rfl
set_option maxRecDepth 100000 in
set_option maxHeartbeats 10000000 in
theorem made_any (w : World) (T : Tab w) (nF nS nD : Nat) (h1 : 2 ≤ nF) (h2 : nF ≤ 32) (h3 : 1 ≤ nS) (h4 : nS ≤ 6) (h5 : nD ≤ 4) :
    Calls Tryz.prog 8 #[.agg #[.int .i64 nF, .int .i64 nS, .int .i64 nD], .bool false] w fun e w' => ∃ d K r V X A, e = .returned (.tuple #[.pointer (some ⟨d.bw, 0, none⟩), .bool true]) ∧ AllOk w w' d K r V (fun _ => 0) X A := by
  have HT : Hid (Tab w) := T
  obtain ⟨W, eW⟩ : ∃ W, w.alloc (.cells #[.int .i64 nF, .int .i64 nS, .int .i64 nD] 23) = W := ⟨_, rfl⟩
  have HB : Hid (Below w.heap.size w W ∧ W.heap.size = w.heap.size + 1) := by unfold Hid; rw [← eW]; exact ⟨(Below.refl _ _).alloc (Nat.le_refl _) _, by simp⟩
  have c0 : W.cell? ⟨w.heap.size, 0, none⟩ = some (.int .i64 nF) := by rw [← eW, World.cell?_alloc_at _ _ _ _ rfl]; rfl
  have c1 : W.cell? ⟨w.heap.size, 1, none⟩ = some (.int .i64 nS) := by rw [← eW, World.cell?_alloc_at _ _ _ _ rfl]; rfl
  have c2 : W.cell? ⟨w.heap.size, 2, none⟩ = some (.int .i64 nD) := by rw [← eW, World.cell?_alloc_at _ _ _ _ rfl]; rfl
  have EW : Hid (w.alloc (.cells #[.int .i64 nF, .int .i64 nS, .int .i64 nD] 23) = W) := eW
  clear T eW
  go_enter Tryz.func8, Tryz.ntmps8
  go_wp2_with fail
  rw [EW.out]
  refine (new_any nF nS nD h1 h2 h3 h4 h5 W).mono ?_
  rintro e w1 ⟨bk, bf, bs, bd, rfl, R1, b1, l1, l2, l3, l4⟩
  have H1 : Hid (Rep w1 bk bf bs bd (kNew nF nS nD) ∧ Below W.heap.size W w1 ∧ W.heap.size ≤ bk ∧ W.heap.size ≤ bf ∧ W.heap.size ≤ bs ∧ W.heap.size ≤ bd) := ⟨R1, b1, l1, l2, l3, l4⟩
  have d0 := below_cell b1 (by have := HB.out.2; omega) c0
  have d1 := below_cell b1 (by have := HB.out.2; omega) c1
  have d2 := below_cell b1 (by have := HB.out.2; omega) c2
  clear R1 b1 l1 l2 l3 l4 c0 c1 c2 EW
  go_wp2_with fail
  refine (rnew_any nF nS nD h1 h2 h3 h4 h5 w1).mono ?_
  rintro e w2 ⟨B, r, rfl, M2, U2, b2, m1, m2, m3, m4⟩
  have H2 : Hid (RMem w2 B r ∧ Rel (kNew nF nS nD) r ∧ Below w1.heap.size w1 w2 ∧ w1.heap.size ≤ B.b ∧ w1.heap.size ≤ B.bw ∧ w1.heap.size ≤ B.bp ∧ ∀ q, w1.heap.size ≤ B.bq q) := ⟨M2, U2, b2, m1, m2, m3, m4⟩
  clear M2 U2 b2 m1 m2 m3 m4 d0 d1 d2
  go_wp2
  go_loopw [11] (fun i w' => i = .int .i64 0 ∧ AllOk w w' ⟨bk, bf, bs, bd, B, w2.heap.size + 1, w2.heap.size, w2.heap.size + 2, w1.heap.size, w2.heap.size⟩ (kNew nF nS nD) r (fun _ => .slice none 0 0) (fun _ => 0) (fun _ => []) (fun _ => none)) (fun i _ => 0)
  case atStart =>
    refine ⟨rfl, all_new HT.out HB.out.1 HB.out.2 H1.out.1 H1.out.2.1 H1.out.2.2 H2.out.1 H2.out.2.1 H2.out.2.2.1 H2.out.2.2.2 h1 h3 h4⟩
  case round =>
    obtain ⟨rfl, z1⟩ := hrel
    have HZ : Hid (AllOk w wr ⟨bk, bf, bs, bd, B, w2.heap.size + 1, w2.heap.size, w2.heap.size + 2, w1.heap.size, w2.heap.size⟩ (kNew nF nS nD) r (fun _ => .slice none 0 0) (fun _ => 0) (fun _ => []) (fun _ => none)) := z1
    clear z1
    go_wp2
    go_ret2
    exact ⟨_, _, _, _, _, _, rfl, HZ.out⟩
end Go.Proofs.YtcgabodkegcpgaaGreatDoor
namespace Go.Proofs.YtcgabodkegcpgaaGreatDoor
open Go.RowKit
set_option linter.unusedVariables false
set_option linter.unusedSimpArgs false
attribute [local go_sem ↓] Go.wp_at_zero Go.wp_at_succ

/-- A script in memory; each call is a number of 64 bits. -/
def ScriptIn (w : World) (a : Option Addr) (n : Nat) : Prop := ∀ i, i < n → ∃ g o k s c a0 a1 a2 o0 o1 o2 b, a = some ⟨g, o, none⟩ ∧ g < w.heap.size ∧ w.rangeAt g (o + i * 10) (actCells k s c a0 a1 a2 o0 o1 o2 b) ∧ -9223372036854775808 ≤ c ∧ c < 9223372036854775808
theorem made_bad (w : World) (x y z : Int) (hx : -9223372036854775808 ≤ x ∧ x < 9223372036854775808) (hy : -9223372036854775808 ≤ y ∧ y < 9223372036854775808) (h : ¬ MayBe x y z) :
    Calls Tryz.prog 8 #[.agg #[.int .i64 x, .int .i64 y, .int .i64 z], .bool false] w fun e w' => e = .returned (.tuple #[.pointer none, .bool true]) ∧ Below w.heap.size w w' := by
  obtain ⟨W, eW⟩ : ∃ W, w.alloc (.cells #[.int .i64 x, .int .i64 y, .int .i64 z] 23) = W := ⟨_, rfl⟩
  have HB : Hid (Below w.heap.size w W ∧ W.heap.size = w.heap.size + 1) := by unfold Hid; rw [← eW]; exact ⟨(Below.refl _ _).alloc (Nat.le_refl _) _, by simp⟩
  have c0 : W.cell? ⟨w.heap.size, 0, none⟩ = some (.int .i64 x) := by rw [← eW, World.cell?_alloc_at _ _ _ _ rfl]; rfl
  have c1 : W.cell? ⟨w.heap.size, 1, none⟩ = some (.int .i64 y) := by rw [← eW, World.cell?_alloc_at _ _ _ _ rfl]; rfl
  have c2 : W.cell? ⟨w.heap.size, 2, none⟩ = some (.int .i64 z) := by rw [← eW, World.cell?_alloc_at _ _ _ _ rfl]; rfl
  have EW : Hid (w.alloc (.cells #[.int .i64 x, .int .i64 y, .int .i64 z] 23) = W) := eW
  have HH : Hid ((-9223372036854775808 ≤ x ∧ x < 9223372036854775808) ∧ (-9223372036854775808 ≤ y ∧ y < 9223372036854775808) ∧ ¬ MayBe x y z) := ⟨hx, hy, h⟩
  clear eW hx hy h
  go_enter Tryz.func8, Tryz.ntmps8
  go_wp2_with fail
  rw [EW.out]
  refine (new_bad x y z HH.out.2.2 W).mono ?_
  rintro e w1 ⟨rfl, b1⟩
  have H1 : Hid (Below W.heap.size W w1) := b1
  have d0 := below_cell b1 (by have := HB.out.2; omega) c0
  have d1 := below_cell b1 (by have := HB.out.2; omega) c1
  have d2 := below_cell b1 (by have := HB.out.2; omega) c2
  clear b1 c0 c1 c2 EW
  go_wp2_with fail
  refine (rnew_bad x y z HH.out.1 HH.out.2.1 HH.out.2.2 w1).mono ?_
  rintro e w2 ⟨rfl, b2⟩
  have H2 : Hid (Below w.heap.size w w2) := below_then (below_then HB.out.1 H1.out HB.out.1.size) b2 (by have := HB.out.1.size; have := H1.out.size; omega)
  clear b2 d0 d1 d2
  go_wp2
  go_ret2
  exact ⟨rfl, H2.out⟩
set_option maxRecDepth 100000 in
set_option maxHeartbeats 10000000 in
theorem plays_any (w : World) (T : Tab w) (x y z : Int) (hx : -9223372036854775808 ≤ x ∧ x < 9223372036854775808) (hy : -9223372036854775808 ≤ y ∧ y < 9223372036854775808) (a : Option Addr) (n cap : Nat) (hn : n ≤ 1759218604390) (hS : ScriptIn w a n) :
    Calls Tryz.prog 7 #[.agg #[.int .i64 x, .int .i64 y, .int .i64 z], .slice a n cap, .bool false] w fun e w' => e = .returned (.bool true) ∧ Below w.heap.size w w' := by
  obtain ⟨W, eW⟩ : ∃ W, w.alloc (.cells #[.int .i64 x, .int .i64 y, .int .i64 z] 23) = W := ⟨_, rfl⟩
  have HB : Hid (Below w.heap.size w W ∧ W.heap.size = w.heap.size + 1) := by unfold Hid; rw [← eW]; exact ⟨(Below.refl _ _).alloc (Nat.le_refl _) _, by simp⟩
  have HT : Hid (Tab W) := T.same (HB.out.1.block 0 T.lt)
  have EW : Hid (w.alloc (.cells #[.int .i64 x, .int .i64 y, .int .i64 z] 23) = W) := eW
  have WA : Hid (ScriptIn w a n) := hS
  have HX : Hid ((-9223372036854775808 ≤ x ∧ x < 9223372036854775808) ∧ (-9223372036854775808 ≤ y ∧ y < 9223372036854775808)) := ⟨hx, hy⟩
  clear eW T hS hx hy
  go_enter Tryz.func7, Tryz.ntmps7
  go_wp2_with fail
  rw [EW.out]
  by_cases hm : MayBe x y z
  · obtain ⟨nF, nS, nD, rfl, rfl, rfl, h1, h2, h3, h4, h5⟩ : ∃ nF nS nD : Nat, x = nF ∧ y = nS ∧ z = nD ∧ 2 ≤ nF ∧ nF ≤ 32 ∧ 1 ≤ nS ∧ nS ≤ 6 ∧ nD ≤ 4 := by
      unfold MayBe at hm
      exact ⟨x.toNat, y.toNat, z.toNat, by omega, by omega, by omega, by omega, by omega, by omega, by omega, by omega⟩
    refine (made_any W HT.out nF nS nD h1 h2 h3 h4 h5).mono ?_
    rintro e w1 ⟨d, K, r, V, X, A, rfl, Z1⟩
    have HZ : Hid (AllOk W w1 d K r V (fun _ => 0) X A) := Z1
    clear Z1 hm EW HX
    go_wp2
    go_loopw [8, 9] (fun ok i w' => ∃ (k : Nat) (K : Ker) (r : Rk) (V : Nat → Value) (N : Nat → Nat) (X : Nat → List Value) (A : Nat → Option (Nat × Nat × Nat)), k ≤ n ∧ i = .int .i64 k ∧ ok = .bool true ∧ AllOk W w' d K r V N X A ∧ ∀ c, c < 3 → N c ≤ 4 * k) (fun ok i _ => n - (intOf i).toNat)
    case atStart => exact ⟨0, K, r, V, _, X, A, by omega, rfl, rfl, HZ.out, fun c hc => by omega⟩
    case round =>
      clear HZ
      obtain ⟨k, K, r, V, N, X, A, hk, rfl, rfl, z1, n1⟩ := hrel
      have HZ : Hid (AllOk W wr d K r V N X A) := z1
      have HN : Hid (∀ c, c < 3 → N c ≤ 4 * k) := n1
      clear z1 n1
      by_cases hlt : k < n
      · obtain ⟨g, o, ka, s, cl, a0, a1, a2, o0, o1, o2, ot, ea, hg, hr, hl⟩ := WA.out k hlt
        subst ea
        obtain ⟨cs, hcs⟩ : ∃ cs, cs = actCells ka s cl a0 a1 a2 o0 o1 o2 ot := ⟨_, rfl⟩
        rw [← hcs] at hr
        have Hcs : Hid (cs = actCells ka s cl a0 a1 a2 o0 o1 o2 ot) := hcs
        have LA : Hid (wr.rangeAt g (o + k * 10) cs) := range_blk hr ((HZ.out.core.bel.block g (by have := HB.out.2; omega)).trans (HB.out.1.block g hg))
        have ei : Hid ((Tryz.prog.info? 29).map (·.size) = some cs.length) := by unfold Hid; rw [hcs]; kernel_rfl
        have HL : Hid (-9223372036854775808 ≤ cl ∧ cl < 9223372036854775808) := hl
        have i1 : (0 : Int) ≤ (k : Int) := by omega
        have i2 : (k : Int) < (n : Int) := by omega
        have AC := act_any HZ.out (fun c hc => by have := HN.out c hc; omega) ka s cl a0 a1 a2 o0 o1 o2 ot hl
        rw [← hcs] at AC
        have HAC : Hid (Calls Tryz.prog 9 #[.pointer (some ⟨d.bw, 0, none⟩), .agg cs.toArray] wr fun e w' => e = .returned (.bool true) ∧ ∃ K' r' V' N' X' A', AllOk W w' d K' r' V' N' X' A' ∧ ∀ c, c < 3 → N' c ≤ N c + 4) := AC
        clear hr hcs hg hl AC
        go_wp2_with (refine wpList_load_mid rfl 29 _ rfl g (o + k * 10) rfl cs _ LA.out Tryz.underlying29 rfl ei.out ?_)
        refine HAC.out.mono ?_
        rintro e w4 ⟨rfl, K4, r4, V4, N4, X4, A4, Z4, n4⟩
        have HZ4 : Hid (AllOk W w4 d K4 r4 V4 N4 X4 A4 ∧ ∀ c, c < 3 → N4 c ≤ 4 * (k + 1)) := ⟨Z4, fun c hc => by have := HN.out c hc; have := n4 c hc; omega⟩
        have x4 := Z4.core.x4
        clear Z4 n4
        go_wp2_with fail
        refine (looks_any HZ4.out.1.book (fun c hc => by have := HZ4.out.2 c hc; omega)).mono ?_
        rintro e w5 ⟨rfl, b5⟩
        have HZ5 : Hid (AllOk W w5 d K4 r4 V4 N4 X4 A4) := HZ4.out.1.below b5
        clear b5 x4
        go_wp2
        exact ⟨⟨k + 1, K4, r4, V4, N4, X4, A4, by omega, by go_num, rfl, HZ5.out, HZ4.out.2⟩, by simp [intOf]; omega⟩
      · obtain rfl : k = n := by omega
        go_wp2_with fail
        refine (last_any HZ.out (fun c hc => by have := HN.out c hc; omega)).mono ?_
        rintro e w4 ⟨rfl, b4⟩
        have HB4 : Hid (Below w.heap.size w w4) := below_then HB.out.1 b4 HB.out.1.size
        clear b4
        go_wp2
        go_ret
        exact ⟨rfl, HB4.out⟩
  · refine (made_bad W x y z HX.out.1 HX.out.2 hm).mono ?_
    rintro e w1 ⟨rfl, b1⟩
    have HB1 : Hid (Below w.heap.size w w1) := below_then HB.out.1 b1 HB.out.1.size
    clear b1 hm
    go_wp2
    go_ret
    exact ⟨rfl, HB1.out⟩
theorem calls_any (w : World) (T : Tab w) (x y z : Int) (hx : -9223372036854775808 ≤ x ∧ x < 9223372036854775808) (hy : -9223372036854775808 ≤ y ∧ y < 9223372036854775808) (a : Option Addr) (n cap : Nat) (hn : n ≤ 1759218604390) (hS : ScriptIn w a n) :
    Calls Tryz.prog 4 #[.agg #[.int .i64 x, .int .i64 y, .int .i64 z], .slice a n cap] w fun e w' => e = .returned (.bool true) ∧ Below w.heap.size w w' := by
  obtain ⟨W, eW⟩ : ∃ W, w.alloc (.cells #[.int .i64 x, .int .i64 y, .int .i64 z] 23) = W := ⟨_, rfl⟩
  have HB : Hid (Below w.heap.size w W ∧ W.heap.size = w.heap.size + 1) := by unfold Hid; rw [← eW]; exact ⟨(Below.refl _ _).alloc (Nat.le_refl _) _, by simp⟩
  have HT : Hid (Tab W) := T.same (HB.out.1.block 0 T.lt)
  have EW : Hid (w.alloc (.cells #[.int .i64 x, .int .i64 y, .int .i64 z] 23) = W) := eW
  have WA : Hid (ScriptIn W a n) := fun i hi => by
    obtain ⟨g, o, k, s, c, a0, a1, a2, o0, o1, o2, b, h1, h2, h3, h4⟩ := hS i hi
    exact ⟨g, o, k, s, c, a0, a1, a2, o0, o1, o2, b, h1, by have := HB.out.2; omega, range_blk h3 (HB.out.1.block g h2), h4⟩
  have HX : Hid ((-9223372036854775808 ≤ x ∧ x < 9223372036854775808) ∧ (-9223372036854775808 ≤ y ∧ y < 9223372036854775808)) := ⟨hx, hy⟩
  clear eW T hS hx hy
  go_enter Tryz.func4, Tryz.ntmps4
  go_wp2_with fail
  rw [EW.out]
  refine (plays_any W HT.out x y z HX.out.1 HX.out.2 a n cap hn WA.out).mono ?_
  rintro e w1 ⟨rfl, b1⟩
  have HB1 : Hid (Below w.heap.size w w1) := below_then HB.out.1 b1 HB.out.1.size
  clear b1
  go_wp2
  go_ret
  exact ⟨rfl, HB1.out⟩
end Go.Proofs.YtcgabodkegcpgaaGreatDoor
