/- The reference's Reap. -/
import Derived.Test.YtcgabodkegcpgaaGreatDoorRf8
import Derived.Test.YtcgabodkegcpgaaGreatDoorSam
namespace Go.Proofs.YtcgabodkegcpgaaGreatDoor
open Go.RowKit
set_option linter.unusedVariables false
set_option linter.unusedSimpArgs false
attribute [local go_sem ↓] Go.wp_at_zero Go.wp_at_succ

/-- A process is none again. -/
theorem rel_reap {K : Ker} {r : Rk} (U : Rel K r) {c t : Nat} (hc : c < K.nS) : Rel ((K.become t 0 (-1)).noSlot c) (r.row c (procNum 0 (-1) (-1) 0)) := by
  have U1 : Rel (K.become t 0 (-1)) r := U.frees t 0 (-1) (by omega)
  generalize K.become t 0 (-1) = K1 at *
  refine ⟨U1.f, U1.s, U1.d, fun i d hi hd => ?_, U1.w, U1.q⟩
  show (if i = c then procNum 0 (-1) (-1) 0 d else r.P i d) = _
  have S' : ∀ i j, (K1.noSlot c).S i j = if i = c then (if j = 0 ∨ j = 19 then 0 else -1) else K1.S i j := fun _ _ => rfl
  have B' : ∀ i j, (K1.noSlot c).B i j = if i = c then false else K1.B i j := fun _ _ => rfl
  by_cases h : i = c
  · subst h
    rw [if_pos rfl]
    unfold pNum Ker.page Ker.wr Ker.file Ker.end
    rw [S', S', S', S', B', B', if_pos rfl, if_pos rfl, if_pos rfl, if_pos rfl, if_pos rfl, if_pos rfl]
    obtain rfl | rfl | rfl | rfl | ⟨h4, h8⟩ | h8 : d = 0 ∨ d = 1 ∨ d = 2 ∨ d = 3 ∨ (4 ≤ d ∧ d < 8) ∨ 8 ≤ d := by omega
    · simp [procNum]
    · simp [procNum]
    · simp [procNum]
    · simp [procNum]
    · rw [if_neg (by omega), if_neg (by omega), if_pos h8, if_neg (by omega), encP_none]
      unfold procNum; rw [if_neg (by omega), if_neg (by omega), if_neg (by omega), if_neg (by omega)]
    · rw [if_neg (by omega), if_neg (by omega), if_neg (by omega), if_neg (by omega), encP_none]
      unfold procNum; rw [if_neg (by omega), if_neg (by omega), if_neg (by omega), if_neg (by omega)]
  · rw [if_neg h]
    have hi' : i < K1.nS := hi
    rw [U1.p i d hi' hd]
    unfold pNum Ker.page Ker.wr Ker.file Ker.end
    rw [S', S', S', S', B', B', if_neg h, if_neg h, if_neg h, if_neg h, if_neg h, if_neg h]

theorem run_array {P : Program} {t : TypeId} {d : Nat} {xs ys : Array Value} {e : TypeId} {n m : Nat} (ht : P.underlying t = some (.array n e)) (hs : ∀ w, (sizeOf e).run P w = .ok m w) (q : Nat → Bool)
    (h : ∀ i, i < n → ∃ a b, Pt P e xs (i * m) a ∧ Pt P e ys (i * m) b ∧ ∀ w, (Op.equalIn d e a b).run P w = .ok (q i) w) (w : World) : (Op.equalIn (d + 1) t (.agg xs) (.agg ys)).run P w = .ok ((List.range' 0 n 1).all q) w := by
  rw [Op.equalIn]
  simp only [Sem.run_bind, run_underlying ht, Result.andThen_ok, hs, Std.Legacy.Range.forIn_eq_forIn_range', Std.Legacy.Range.size, Nat.sub_zero, Nat.add_sub_cancel, Nat.div_one]
  have hl : ∀ i ∈ List.range' 0 n 1, i < n := fun i hi => by simpa using (List.mem_range'_1.1 hi).2
  generalize List.range' 0 n 1 = l at hl ⊢
  induction l with
  | nil => simp
  | cons i l ih =>
    obtain ⟨a, b, ha, hb, hc⟩ := h i (hl i (by simp))
    simp only [List.forIn_cons, Sem.run_bind, ha w, hb w, hc w, Result.andThen_ok, List.all_cons]
    cases q i
    · simp
    · simp only [Bool.not_true, Bool.false_eq_true, if_false, Sem.run_pure, Result.andThen_ok, Bool.true_and]
      exact ih fun j hj => hl j (by simp [hj])
set_option maxRecDepth 100000 in
theorem zero_words (a b c d : Int) (w : World) : (Op.equalIn 10000 69 (.agg #[.int .i64 a, .int .i64 b, .int .i64 c, .int .i64 d]) (.agg #[.int .i64 0, .int .i64 0, .int .i64 0, .int .i64 0])).run Tryz.prog w = .ok (a == 0 && (b == 0 && (c == 0 && d == 0))) w := by
  have h := run_array (P := Tryz.prog) (t := 69) (d := 9999) (xs := #[.int .i64 a, .int .i64 b, .int .i64 c, .int .i64 d]) (ys := #[.int .i64 0, .int .i64 0, .int .i64 0, .int .i64 0]) Tryz.underlying69 Tryz.sizeOf3 (fun i => if i = 0 then a == 0 else if i = 1 then b == 0 else if i = 2 then c == 0 else d == 0) (fun i hi => by
    obtain rfl | rfl | rfl | rfl : i = 0 ∨ i = 1 ∨ i = 2 ∨ i = 3 := by omega
    · exact ⟨_, _, pt_one Tryz.isAgg3 rfl, pt_one Tryz.isAgg3 rfl, fun w => run_equalIn_int w _ _ .i64 .i64 _ _ Tryz.underlying3⟩
    · exact ⟨_, _, pt_one Tryz.isAgg3 rfl, pt_one Tryz.isAgg3 rfl, fun w => run_equalIn_int w _ _ .i64 .i64 _ _ Tryz.underlying3⟩
    · exact ⟨_, _, pt_one Tryz.isAgg3 rfl, pt_one Tryz.isAgg3 rfl, fun w => run_equalIn_int w _ _ .i64 .i64 _ _ Tryz.underlying3⟩
    · exact ⟨_, _, pt_one Tryz.isAgg3 rfl, pt_one Tryz.isAgg3 rfl, fun w => run_equalIn_int w _ _ .i64 .i64 _ _ Tryz.underlying3⟩) w
  refine h.trans ?_
  have e : (List.range' 0 4 1).all (fun i => if i = 0 then a == 0 else if i = 1 then b == 0 else if i = 2 then c == 0 else d == 0) = (a == 0 && (b == 0 && (c == 0 && d == 0))) := by
    show ((a == 0) && ((b == 0) && ((c == 0) && ((d == 0) && true)))) = _
    rw [Bool.and_true]
  rw [e]

section
variable {w : World} {B : RB} {r : Rk} {K : Ker}
set_option maxRecDepth 100000 in
set_option maxHeartbeats 4000000 in
theorem undone_reap (M : RMem w B r) (U : Rel K r) (I : Inv K) {s c : Nat} (y : Int) (hc : c < K.nS) (he : K.still s c = true) :
    Calls Tryz.prog 42 #[.pointer (some ⟨B.b, 0, none⟩), .int .i64 12, .int .i64 c, .int .i64 y] w (REnds B w (kReap K s c)) := by
  have HM : Hid (RMem w B r) := M
  have HU : Hid (Rel K r) := U
  have k1 := M.k1
  have hc' : c < r.nS := by have := U.s; omega
  have i1 : (0 : Int) ≤ (c : Int) := by omega
  have i2 : (c : Int) < (r.nS : Int) := by omega
  have g4 : w.cell? ⟨B.bp, c * 12 + 4, none⟩ = some (.int .i64 (r.P c 4)) := M.pr c 4 hc' (by omega)
  have g5 : w.cell? ⟨B.bp, c * 12 + 4 + 1, none⟩ = some (.int .i64 (r.P c 5)) := M.pr c 5 hc' (by omega)
  have g6 : w.cell? ⟨B.bp, c * 12 + 4 + 2, none⟩ = some (.int .i64 (r.P c 6)) := M.pr c 6 hc' (by omega)
  have g7 : w.cell? ⟨B.bp, c * 12 + 4 + 3, none⟩ = some (.int .i64 (r.P c 7)) := M.pr c 7 hc' (by omega)
  have g8 : w.cell? ⟨B.bp, c * 12 + 8, none⟩ = some (.int .i64 (r.P c 8)) := M.pr c 8 hc' (by omega)
  have g9 : w.cell? ⟨B.bp, c * 12 + 8 + 1, none⟩ = some (.int .i64 (r.P c 9)) := M.pr c 9 hc' (by omega)
  have g10 : w.cell? ⟨B.bp, c * 12 + 8 + 2, none⟩ = some (.int .i64 (r.P c 10)) := M.pr c 10 hc' (by omega)
  have g11 : w.cell? ⟨B.bp, c * 12 + 8 + 3, none⟩ = some (.int .i64 (r.P c 11)) := M.pr c 11 hc' (by omega)
  have g3 := M.pr c 3 hc' (by omega)
  rw [U.code hc] at g3
  have hD : K.nD ≤ 4 := by have := M.hD; have := U.d; omega
  have hF : K.nF ≤ 32 := by have := M.hF; have := U.f; omega
  have PZ : ∀ p, p < 4 → (r.P c (4 + p) = 0 ↔ K.page c p = -1) := fun p hp => by
    rcases enc_cases I.good U hc hp hF with ⟨h1, _, h3⟩ | ⟨n, h1, _, h3⟩
    · exact ⟨fun _ => h1, fun _ => h3⟩
    · constructor
      · intro h; omega
      · intro h; omega
  have FZ : ∀ x, x < 4 → (r.P c (8 + x) = 0 ↔ K.file c x = -1) := fun x hx => by
    rcases file_cases I.good U hc hx hD with ⟨h1, h2⟩ | ⟨n, h1, _, _, _, h5, _⟩
    · exact ⟨fun _ => h1, fun _ => h2⟩
    · constructor
      · intro h; omega
      · intro h; omega
  have HP : Hid ((r.P c 4 = 0 ∧ r.P c 5 = 0 ∧ r.P c 6 = 0 ∧ r.P c 7 = 0) ↔ (K.page c 0 = -1 ∧ K.page c 1 = -1 ∧ K.page c 2 = -1 ∧ K.page c 3 = -1)) := by
    have a0 := PZ 0 (by omega); have a1 := PZ 1 (by omega); have a2 := PZ 2 (by omega); have a3 := PZ 3 (by omega)
    unfold Hid
    exact and_congr a0 (and_congr a1 (and_congr a2 a3))
  have HF : Hid ((r.P c 8 = 0 ∧ r.P c 9 = 0 ∧ r.P c 10 = 0 ∧ r.P c 11 = 0) ↔ (K.file c 0 = -1 ∧ K.file c 1 = -1 ∧ K.file c 2 = -1 ∧ K.file c 3 = -1)) := by
    have a0 := FZ 0 (by omega); have a1 := FZ 1 (by omega); have a2 := FZ 2 (by omega); have a3 := FZ 3 (by omega)
    unfold Hid
    exact and_congr a0 (and_congr a1 (and_congr a2 a3))
  clear M U PZ FZ
  have z1 := zero_words (r.P c 4) (r.P c 5) (r.P c 6) (r.P c 7)
  have z2 := zero_words (r.P c 8) (r.P c 9) (r.P c 10) (r.P c 11)
  go_enter Tryz.func42, Tryz.ntmps42
  by_cases hpz : r.P c 4 = 0 ∧ r.P c 5 = 0 ∧ r.P c 6 = 0 ∧ r.P c 7 = 0
  · have hp := HP.out.1 hpz
    rw [hpz.1, hpz.2.1, hpz.2.2.1, hpz.2.2.2] at z1
    rw [hpz.1] at g4; rw [hpz.2.1] at g5; rw [hpz.2.2.1] at g6; rw [hpz.2.2.2] at g7
    simp only [beq_self_eq_true, Bool.and_self] at z1
    by_cases hfz : r.P c 8 = 0 ∧ r.P c 9 = 0 ∧ r.P c 10 = 0 ∧ r.P c 11 = 0
    · have hf := HF.out.1 hfz
      rw [hfz.1, hfz.2.1, hfz.2.2.1, hfz.2.2.2] at z2
      rw [hfz.1] at g8; rw [hfz.2.1] at g9; rw [hfz.2.2.1] at g10; rw [hfz.2.2.2] at g11
      have E : Hid (kReap K s c = ⟨(K.become (K.S c 2).toNat 0 (-1)).noSlot c, K.S c 19, 0⟩) := by
        unfold kReap Hid
        rw [if_neg (by simp [he]), if_neg (by omega), if_neg (by omega)]
      have TH : Hid (w.there B.bp (c * 12) 12) := HM.out.thereP hc'
      clear hpz hfz hp hf z2
      go_wp2_with (refine wpList_store_mid rfl 107 _ _ rfl _ (c * 12) (procCells 0 (-1) (-1) 0).toArray rfl rfl TH.out (by kernel_rfl) (by kernel_rfl) ?_)
      go_ret2
      exact REnds.mk E (HM.out.row hc' (procCells 0 (-1) (-1) 0) (procNum 0 (-1) (-1) 0) rfl (procCells_get 0 (-1) (-1) 0)) (rel_reap HU.out hc) ((RKeeps.refl _).row _ _)
    · have hf : ¬ (K.file c 0 = -1 ∧ K.file c 1 = -1 ∧ K.file c 2 = -1 ∧ K.file c 3 = -1) := fun h => hfz (HF.out.2 h)
      have E : Hid (kReap K s c = ⟨K, 0, 8⟩) := by
        unfold kReap Hid
        rw [if_neg (by simp [he]), if_neg (by omega), if_pos (by omega)]
      have b2 : (r.P c 8 == 0 && (r.P c 9 == 0 && (r.P c 10 == 0 && r.P c 11 == 0))) = false := by
        rw [Bool.eq_false_iff]; intro h; simp at h; exact hfz h
      simp only [b2] at z2
      clear hpz hfz hp hf b2
      generalize r.P c 8 = v8 at *
      generalize r.P c 9 = v9 at *
      generalize r.P c 10 = v10 at *
      generalize r.P c 11 = v11 at *
      go_wp2
      go_ret2
      exact REnds.mk E HM.out HU.out (RKeeps.refl _)
  · have hp : ¬ (K.page c 0 = -1 ∧ K.page c 1 = -1 ∧ K.page c 2 = -1 ∧ K.page c 3 = -1) := fun h => hpz (HP.out.2 h)
    have E : Hid (kReap K s c = ⟨K, 0, 6⟩) := by
      unfold kReap Hid
      rw [if_neg (by simp [he]), if_pos (by omega)]
    have b1 : (r.P c 4 == 0 && (r.P c 5 == 0 && (r.P c 6 == 0 && r.P c 7 == 0))) = false := by
      rw [Bool.eq_false_iff]; intro h; simp at h; exact hpz h
    simp only [b1] at z1
    clear hpz hp b1 z2
    generalize r.P c 4 = v4 at *
    generalize r.P c 5 = v5 at *
    generalize r.P c 6 = v6 at *
    generalize r.P c 7 = v7 at *
    go_wp2
    go_ret2
    exact REnds.mk E HM.out HU.out (RKeeps.refl _)
end
end Go.Proofs.YtcgabodkegcpgaaGreatDoor
