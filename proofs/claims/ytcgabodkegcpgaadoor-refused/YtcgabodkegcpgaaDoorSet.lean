/- The statement's settings, out of raw ones. -/
import Derived.Test.YtcgabodkegcpgaaDoorPik
namespace Go.Proofs.YtcgabodkegcpgaaDoor
open Go.RowKit
set_option linter.unusedVariables false

theorem settings_any (a b c : Int) (ha : -9223372036854775808 ≤ a ∧ a < 9223372036854775808) (hb : -9223372036854775808 ≤ b ∧ b < 9223372036854775808) (hc : -9223372036854775808 ≤ c ∧ c < 9223372036854775808) (w : World) :
    Calls Tryd.prog 12 #[.agg #[.int .i64 a, .int .i64 b, .int .i64 c]] w fun e w' => e = .returned (.agg #[.int .i64 ((2 + pickN a 31 : Nat) : Int), .int .i64 ((1 + pickN b 6 : Nat) : Int), .int .i64 (pickN c 5 : Nat)]) ∧ Below w.heap.size w w' := by
  have l1 := pickN_lt a (n := 31) (by omega)
  have l2 := pickN_lt b (n := 6) (by omega)
  obtain ⟨OKP, hOK⟩ : ∃ OKP : Int → Int → Prop, OKP = fun x n => (x = a ∧ n = 31) ∨ (x = b ∧ n = 6) ∨ (x = c ∧ n = 5) := ⟨_, rfl⟩
  obtain ⟨pk, hpk⟩ : ∃ pk : Int → Int → Int, pk = fun x n => ((pickN x n.toNat : Nat) : Int) := ⟨_, rfl⟩
  have P : ∀ x n w, OKP x n → Calls Tryd.prog 33 #[.int .i64 x, .int .i64 n] w fun e w' => e = .returned (.int .i64 (pk x n)) ∧ w' = w := by
    subst hOK hpk
    rintro x n w (⟨rfl, rfl⟩ | ⟨rfl, rfl⟩ | ⟨rfl, rfl⟩)
    · exact pick_any x ha.1 ha.2 31 (by omega) (by omega) w
    · exact pick_any x hb.1 hb.2 6 (by omega) (by omega) w
    · exact pick_any x hc.1 hc.2 5 (by omega) (by omega) w
  have o1 : OKP a 31 := by rw [hOK]; simp
  have o2 : OKP b 6 := by rw [hOK]; simp
  have o3 : OKP c 5 := by rw [hOK]; simp
  have q1 : pk a 31 = (pickN a 31 : Nat) := by rw [hpk]; rfl
  have q2 : pk b 6 = (pickN b 6 : Nat) := by rw [hpk]; rfl
  have q3 : pk c 5 = (pickN c 5 : Nat) := by rw [hpk]; rfl
  clear ha hb hc hOK hpk
  have e1 : IntKind.i64.wrap (2 + pk a 31) = ((2 + pickN a 31 : Nat) : Int) := by rw [q1, IntWalk.i64_in _ (by omega)]; omega
  have e2 : IntKind.i64.wrap (1 + pk b 6) = ((1 + pickN b 6 : Nat) : Int) := by rw [q2, IntWalk.i64_in _ (by omega)]; omega
  rw [← q3]
  clear l1 l2 q1 q2 q3
  generalize ((2 + pickN a 31 : Nat) : Int) = p2 at *
  generalize ((1 + pickN b 6 : Nat) : Int) = q2 at *
  go_enter Tryd.func12, Tryd.ntmps12
  go_wp2_with fail
  obtain ⟨W, eW⟩ : ∃ W, W = (w.alloc (.cells #[.int .i64 a, .int .i64 b, .int .i64 c] 30)).alloc (.cells #[.int .i64 0, .int .i64 0, .int .i64 0] 30) := ⟨_, rfl⟩
  have y0 : W.cell? ⟨w.heap.size, 0, none⟩ = some (.int .i64 a) := by rw [eW, World.cell?_alloc2_first]; rfl
  have y1 : W.cell? ⟨w.heap.size, 1, none⟩ = some (.int .i64 b) := by rw [eW, World.cell?_alloc2_first]; rfl
  have y2 : W.cell? ⟨w.heap.size, 2, none⟩ = some (.int .i64 c) := by rw [eW, World.cell?_alloc2_first]; rfl
  have HW : Hid (Below w.heap.size w W ∧ W.rowIs (w.heap.size + 1) 30 3 (fun j => (#[.int .i64 0, .int .i64 0, .int .i64 0] : Array Value).getD j (.bool false))) := by
    refine ⟨?_, ?_⟩
    · rw [eW]; exact ((Below.refl _ _).alloc (Nat.le_refl _) _).alloc (by simp) _
    · rw [eW]; exact rowIs_new2 _ _ _ _
  have z0 : W.cell? ⟨w.heap.size + 1, 0, none⟩ = some (.int .i64 0) := HW.out.2.cell (by omega)
  have z1 : W.cell? ⟨w.heap.size + 1, 1, none⟩ = some (.int .i64 0) := HW.out.2.cell (by omega)
  have z2 : W.cell? ⟨w.heap.size + 1, 2, none⟩ = some (.int .i64 0) := HW.out.2.cell (by omega)
  have f0 : W.frozen? ⟨w.heap.size + 1, 0, none⟩ = false := HW.out.2.frozen _
  have f1 : W.frozen? ⟨w.heap.size + 1, 1, none⟩ = false := HW.out.2.frozen _
  have f2 : W.frozen? ⟨w.heap.size + 1, 2, none⟩ = false := HW.out.2.frozen _
  rw [← eW]
  clear eW
  have n1 : w.heap.size + 1 ≠ w.heap.size := by omega
  have n2 : w.heap.size ≠ w.heap.size + 1 := by omega
  generalize e : w.heap.size + 1 = g1 at *
  generalize e0 : w.heap.size = g0 at *
  go_region_held3 (fun w' => w'.cell? ⟨g0, 0, none⟩ = some (.int .i64 a) ∧ w'.cell? ⟨g0, 1, none⟩ = some (.int .i64 b) ∧ w'.cell? ⟨g0, 2, none⟩ = some (.int .i64 c)) ((repeat' apply And.intro) <;> (first | (go_keep; done) | (refine keep_same ?_; go_keep)))
    (first | (go_at_call 33; refine (P _ _ _ (by first | exact o1 | exact o2 | exact o3)).mono ?_; rintro e w1 ⟨rfl, rfl⟩))
  rename_i Q1 K1 hK hH
  refine hK _ _ ?_
  subst Q1
  refine wp_ret ?_
  obtain ⟨cs, hcs⟩ : ∃ cs : List Value, cs = [.int .i64 p2, .int .i64 q2, .int .i64 (pk c 5)] := ⟨_, rfl⟩
  have hr : (W.setCells g1 0 cs).drew.rangeAt g1 0 cs := World.rangeAt_setCells_same W g1 0 cs (by rw [hcs]; exact rowIs_there HW.out.2 (by simp))
  have hb : Below g0 w (W.setCells g1 0 cs) := below_setCells (by omega) _ _ HW.out.1
  refine bodyPost_ret (v := .agg cs.toArray) (results_cell_range Tryd.results12 _ _ g1 cs _ rfl ?_ Tryd.underlying30 rfl (by rw [hcs]; kernel_rfl)) rfl ?_
  · rw [hcs] at hr ⊢; exact hr
  · rw [hcs] at hb ⊢; exact ⟨rfl, by rw [e0]; exact ⟨hb.os, hb.tape, hb.output, hb.size, hb.block⟩⟩
end Go.Proofs.YtcgabodkegcpgaaDoor
