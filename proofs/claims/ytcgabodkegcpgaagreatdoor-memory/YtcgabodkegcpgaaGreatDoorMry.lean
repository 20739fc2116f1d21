/- burrowlaw.Memory answers true for all settings and every script. -/
import Derived.Test.YtcgabodkegcpgaaGreatDoorPl3
namespace Go.Proofs.YtcgabodkegcpgaaGreatDoor
open Go.RowKit
set_option linter.unusedVariables false
set_option linter.unusedSimpArgs false
attribute [local go_sem ↓] Go.wp_at_zero Go.wp_at_succ

/-- The acts that were picked so far. -/
structure Gath (w w' : World) (v : Value) (m : Nat) (xs : List Value) : Prop where
  bel : Below w.heap.size w w'
  own : w'.ownsRow w.heap.size 29 10 v m xs
  ok : ∀ j, j < m → ∃ k s c a0 a1 a2 o0 o1 o2 b, (∀ t, t < 10 → xs[j * 10 + t]? = (actCells k s c a0 a1 a2 o0 o1 o2 b)[t]?) ∧ -9223372036854775808 ≤ c ∧ c < 9223372036854775808
theorem act_len (k s c a0 a1 a2 o0 o1 o2 : Int) (b : Bool) : (actCells k s c a0 a1 a2 o0 o1 o2 b).length = 10 := rfl
theorem act_one (k s c a0 a1 a2 o0 o1 o2 : Int) (b : Bool) : ∀ u ∈ actCells k s c a0 a1 a2 o0 o1 o2 b, u.oneCell' = true := by simp [actCells, Value.oneCell']
section
variable {w w' w1 w2 : World} {v : Value} {m : Nat} {xs : List Value}
theorem Gath.step (G : Gath w w' v m xs) (b : Below w'.heap.size w' w1) : Gath w w1 v m xs :=
  ⟨below_then G.bel b G.bel.size, ⟨G.own.1, by
    rcases G.own.2 with h | ⟨g, cap, cur, e, hg, hgg, rest⟩
    · exact Or.inl h
    · exact Or.inr ⟨g, cap, cur, e, hg, by rw [b.block g (Array.getElem?_eq_some_iff.1 hgg).1]; exact hgg, rest⟩⟩, G.ok⟩
theorem Gath.grow (G : Gath w w1 v m xs) {g cap : Nat} {k s c a0 a1 a2 o0 o1 o2 : Int} {b : Bool} {cs : List Value} (e : cs = actCells k s c a0 a1 a2 o0 o1 o2 b) (hc : -9223372036854775808 ≤ c ∧ c < 9223372036854775808) (o2' : w2.ownsRow w.heap.size 29 10 (.slice (some ⟨g, 0, none⟩) (m + 1) cap) (m + 1) (xs ++ cs)) (gr : w1.grownBy w2 v.ownBlock) :
    Gath w w2 (.slice (some ⟨g, 0, none⟩) (m + 1) cap) (m + 1) (xs ++ cs) := by
  have xl : xs.length = m * 10 := G.own.1
  refine ⟨⟨gr.os.trans G.bel.os, gr.tape.trans G.bel.tape, gr.output.trans G.bel.output, Nat.le_trans G.bel.size gr.size, fun q hq => ?_⟩, o2', fun j hj => ?_⟩
  · rw [gr.block q (by have := G.bel.size; omega) (fun h => by have := (G.own.lt q h.symm).1; omega)]; exact G.bel.block q hq
  · by_cases h : j < m
    · obtain ⟨k', s', c', b0, b1, b2, p0, p1, p2, b', h1, h2⟩ := G.ok j h
      exact ⟨k', s', c', b0, b1, b2, p0, p1, p2, b', fun t ht => by rw [List.getElem?_append_left (by omega)]; exact h1 t ht, h2⟩
    · obtain rfl : j = m := by omega
      exact ⟨k, s, c, a0, a1, a2, o0, o1, o2, b, fun t ht => by rw [List.getElem?_append_right (by omega), xl, show j * 10 + t - j * 10 = t by omega, e], hc⟩
theorem Gath.script (G : Gath w w' v m xs) : ∃ a cap, v = .slice a m cap ∧ ScriptIn w' a m := by
  obtain ⟨a, cap, hv⟩ := own_slice G.own
  refine ⟨a, cap, hv, fun i hi => ?_⟩
  obtain ⟨k, s, c, a0, a1, a2, o0, o1, o2, b, h1, h2⟩ := G.ok i hi
  obtain ⟨g, cp, e, _, hl⟩ := G.own.form (by omega)
  have ow := G.own
  rw [e] at ow
  rw [hv] at e
  injection e with e1 _ _
  refine ⟨g, 0, k, s, c, a0, a1, a2, o0, o1, o2, b, e1, hl, fun j u hu => ?_, h2⟩
  have hj : j < 10 := (List.getElem?_eq_some_iff.1 hu).1
  rw [Nat.zero_add, ow.cellAt (i * 10 + j) (by omega), h1 j hj]
  exact hu
end
theorem stored_cells (w : World) (C : Array Value) (t : TypeId) (cs : List Value) (m : Nat) (hC : C.size = m) (hl : cs.length = m) :
    ((w.alloc (.cells C t)).setCells w.heap.size 0 cs.toArray.toList).rangeAt w.heap.size 0 cs ∧ Below w.heap.size w ((w.alloc (.cells C t)).setCells w.heap.size 0 cs.toArray.toList) ∧ ((w.alloc (.cells C t)).setCells w.heap.size 0 cs.toArray.toList).heap.size = w.heap.size + 1 := by
  obtain ⟨h1, h2, h3⟩ := new_stored w C t cs m hC hl (fun j => cs.getD j (.bool false)) (fun j hj => by rw [List.getD_eq_getElem?_getD, List.getElem?_eq_getElem (by omega)]; rfl)
  refine ⟨fun j u hu => ?_, h2, h3⟩
  have hj : j < m := by have := (List.getElem?_eq_some_iff.1 hu).1; omega
  rw [Nat.zero_add, h1.cell hj, List.getD_eq_getElem?_getD, hu]
  rfl
set_option maxRecDepth 100000 in
set_option maxHeartbeats 10000000 in
theorem memory_any (w : World) (T : Tab w) (x y z : Int) (hx : -9223372036854775808 ≤ x ∧ x < 9223372036854775808) (hy : -9223372036854775808 ≤ y ∧ y < 9223372036854775808) (a : Option Addr) (n cap : Nat) (hn : n ≤ 1759218604390) (hS : ScriptIn w a n) :
    Calls Tryz.prog 3 #[.agg #[.int .i64 x, .int .i64 y, .int .i64 z], .slice a n cap] w fun e w' => e = .returned (.bool true) ∧ Below w.heap.size w w' := by
  obtain ⟨W, eW⟩ : ∃ W, w.alloc (.cells #[.int .i64 x, .int .i64 y, .int .i64 z] 23) = W := ⟨_, rfl⟩
  have HB : Hid (Below w.heap.size w W ∧ W.heap.size = w.heap.size + 1) := by unfold Hid; rw [← eW]; exact ⟨(Below.refl _ _).alloc (Nat.le_refl _) _, by simp⟩
  have HT : Hid (Tab w) := T
  have c0 : Hid (W.cell? ⟨w.heap.size, 0, none⟩ = some (.int .i64 x)) := by unfold Hid; rw [← eW, World.cell?_alloc_at _ _ _ _ rfl]; rfl
  have c1 : Hid (W.cell? ⟨w.heap.size, 1, none⟩ = some (.int .i64 y)) := by unfold Hid; rw [← eW, World.cell?_alloc_at _ _ _ _ rfl]; rfl
  have c2 : Hid (W.cell? ⟨w.heap.size, 2, none⟩ = some (.int .i64 z)) := by unfold Hid; rw [← eW, World.cell?_alloc_at _ _ _ _ rfl]; rfl
  have EW : Hid (w.alloc (.cells #[.int .i64 x, .int .i64 y, .int .i64 z] 23) = W) := eW
  have WA : Hid (ScriptIn w a n) := hS
  have HX : Hid ((-9223372036854775808 ≤ x ∧ x < 9223372036854775808) ∧ (-9223372036854775808 ≤ y ∧ y < 9223372036854775808)) := ⟨hx, hy⟩
  obtain ⟨iA, zA, u2, u3, u4, u5, u6⟩ := info_sized (P := Tryz.prog) (t := 29) (n := 10) (b := 80) (by kernel_rfl)
  have HI : Hid (Tryz.prog.info? 29 = some iA ∧ iA.zero = some zA ∧ iA.size = 10 ∧ zA.cells.size = 10 ∧ iA.bytes = 80) := ⟨u2, u3, u4, u6, u5⟩
  clear eW T hS hx hy u2 u3 u4 u5 u6
  go_enter Tryz.func3, Tryz.ntmps3
  go_wp2_with fail
  rw [EW.out]
  go_loopw [5, 6] (fun l i w' => ∃ (k m : Nat) (xs : List Value), k ≤ n ∧ m ≤ k ∧ i = .int .i64 k ∧ Gath W w' l m xs) (fun l i _ => n - (intOf i).toNat)
  case atStart => exact ⟨0, 0, [], by omega, by omega, rfl, ⟨Below.refl _ _, World.ownsRow_nil _ _ _ _, fun j hj => by omega⟩⟩
  case round =>
    obtain ⟨k, m, xs, hk, hm, rfl, g1⟩ := hrel
    have HG : Hid (Gath W wr u5 m xs) := g1
    clear g1
    by_cases hlt : k < n
    · obtain ⟨g, o, ka, s, cl, a0, a1, a2, o0, o1, o2, ot, ea, hg, hr, hl⟩ := WA.out k hlt
      subst ea
      obtain ⟨cs, hcs⟩ : ∃ cs, cs = actCells ka s cl a0 a1 a2 o0 o1 o2 ot := ⟨_, rfl⟩
      rw [← hcs] at hr
      have Hcs : Hid (cs = actCells ka s cl a0 a1 a2 o0 o1 o2 ot) := hcs
      have LA : Hid (wr.rangeAt g (o + k * 10) cs) := range_blk hr ((HG.out.bel.block g (by have := HB.out.2; omega)).trans (HB.out.1.block g hg))
      have ez : Hid (cs.length = 10) := by unfold Hid; rw [hcs]; rfl
      have z1 : Hid (cs.toArray.size = 10) := by unfold Hid; rw [List.size_toArray]; exact ez.out
      have ei : Hid ((Tryz.prog.info? 29).map (·.size) = some cs.length) := by unfold Hid; rw [ez.out]; kernel_rfl
      have ei2 : Hid ((Tryz.prog.info? 29).map (·.size) = some cs.toArray.size) := by unfold Hid; rw [z1.out]; kernel_rfl
      have q0 : Hid (∀ u ∈ cs, u.oneCell' = true) := by unfold Hid; rw [hcs]; exact act_one _ _ _ _ _ _ _ _ _ _
      have q1 : Hid (cs.toArray.all (·.oneCell') = true) := all_oneCell_toArray q0.out
      have HL : Hid (-9223372036854775808 ≤ cl ∧ cl < 9223372036854775808) := hl
      have i1 : (0 : Int) ≤ (k : Int) := by omega
      have i2 : (k : Int) < (n : Int) := by omega
      clear hr hcs hg hl
      have key : (ka = 1 ∧ ¬ cl < 5 ∧ ¬ 12 < cl) ∨ ¬ ka = 1 ∨ (ka = 1 ∧ cl < 5) ∨ (ka = 1 ∧ ¬ cl < 5 ∧ 12 < cl) := by omega
      rcases key with ⟨rfl, h5, h12⟩ | h1 | ⟨rfl, h5⟩ | ⟨rfl, h5, h12⟩
      · go_wp2_with (first | (refine wpList_load_mid rfl 29 _ rfl g (o + k * 10) rfl cs _ LA.out Tryz.underlying29 rfl ei.out ?_) | (refine wpList_store_world rfl 29 _ _ rfl wr.heap.size 0 cs.toArray rfl rfl (by rw [z1.out]; exact there_newm _ _ _ _ (by rfl)) ei2.out q1.out ?_; intro W1 eW1; have F1 : Hid (W1.rangeAt wr.heap.size 0 cs ∧ Below wr.heap.size wr W1 ∧ W1.heap.size = wr.heap.size + 1) := (by unfold Hid; rw [eW1]; exact stored_cells _ _ _ _ 10 (by rfl) ez.out); clear eW1; have y0 : W1.cell? ⟨wr.heap.size, 0, none⟩ = some (.int .i64 1) := F1.out.1 0 _ (by rw [Hcs.out]; rfl); have y2 : W1.cell? ⟨wr.heap.size, 2, none⟩ = some (.int .i64 cl) := F1.out.1 2 _ (by rw [Hcs.out]; rfl)))
        exact ⟨⟨k + 1, m, xs, by omega, by omega, by go_num, HG.out.step F1.out.2.1⟩, by simp [intOf]; omega⟩
      all_goals
        go_wp2_with (first | (refine wpList_load_mid rfl 29 _ rfl g (o + k * 10) rfl cs _ LA.out Tryz.underlying29 rfl ei.out ?_) | (refine wpList_store_world rfl 29 _ _ rfl wr.heap.size 0 cs.toArray rfl rfl (by rw [z1.out]; exact there_newm _ _ _ _ (by rfl)) ei2.out q1.out ?_; intro W1 eW1; have F1 : Hid (W1.rangeAt wr.heap.size 0 cs ∧ Below wr.heap.size wr W1 ∧ W1.heap.size = wr.heap.size + 1) := (by unfold Hid; rw [eW1]; exact stored_cells _ _ _ _ 10 (by rfl) ez.out); clear eW1; have y0 := F1.out.1 0 _ (show cs[0]? = some _ by rw [Hcs.out]; rfl); have y2 : W1.cell? ⟨wr.heap.size, 2, none⟩ = some (.int .i64 cl) := F1.out.1 2 _ (by rw [Hcs.out]; rfl); have HG1 : Hid (Gath W W1 u5 m xs) := HG.out.step F1.out.2.1) | (refine wpList_load_mid rfl 29 _ rfl wr.heap.size 0 rfl cs _ F1.out.1 Tryz.underlying29 rfl ei.out ?_) | (refine wpList_buildSlice_one rfl _ 24 29 rfl iA zA cs 10 rfl Tryz.underlying24 HI.out.1 HI.out.2.1 HI.out.2.2.1 ez.out HI.out.2.2.2.1 (by omega) (by omega) ?_) | (refine wpList_append_lies _ rfl _ _ 24 rfl W.heap.size 29 iA zA 10 80 Tryz.underlying24 HI.out.1 HI.out.2.1 HI.out.2.2.1 HI.out.2.2.2.2 HI.out.2.2.2.1 (by omega) u5 m xs rfl (HG1.out.own.alloc _) ⟨W1.heap.size, 0, none⟩ 1 1 cs rfl ez.out (fun j u hu => laid_news j u hu) q0.out (by omega) (by simp [maxLen]; omega) (by omega) (by have := HG1.out.bel.size; simp; omega) (W1.heap.size + 1) (by simp) ?_; intro g2 cap2 w2 o2' gr2 at2 lt2; have HG2 : Hid (Gath W w2 (.slice (some ⟨g2, 0, none⟩) (m + 1) cap2) (m + 1) (xs ++ cs)) := (HG1.out.step ((Below.refl _ _).alloc (Nat.le_refl _) _)).grow Hcs.out HL.out o2' gr2; clear o2' gr2 at2 lt2))
        exact ⟨⟨k + 1, m + 1, _, by omega, by omega, by go_num, HG2.out⟩, by simp [intOf]; omega⟩
    · obtain rfl : k = n := by omega
      obtain ⟨b, cp, rfl, hs⟩ := HG.out.script
      have HS : Hid (ScriptIn wr b m) := hs
      have d0 := below_cell HG.out.bel (by have := HB.out.2; omega) c0.out
      have d1 := below_cell HG.out.bel (by have := HB.out.2; omega) c1.out
      have d2 := below_cell HG.out.bel (by have := HB.out.2; omega) c2.out
      have HT2 : Hid (Tab wr) := (HT.out.same (HB.out.1.block 0 HT.out.lt)).same (HG.out.bel.block 0 (by have := HB.out.2; omega))
      clear hs
      go_wp2_with fail
      refine (plays_any wr HT2.out x y z HX.out.1 HX.out.2 b m cp (by omega) HS.out).mono ?_
      rintro e w1 ⟨rfl, b1⟩
      have HB1 : Hid (Below w.heap.size w w1) := below_then HB.out.1 (below_then HG.out.bel b1 HG.out.bel.size) HB.out.1.size
      clear b1
      go_wp2
      go_ret
      exact ⟨rfl, HB1.out⟩
end Go.Proofs.YtcgabodkegcpgaaGreatDoor
