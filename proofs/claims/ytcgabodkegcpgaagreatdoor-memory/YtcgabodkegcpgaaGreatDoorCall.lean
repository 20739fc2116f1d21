/- What the kernel's Call does: the looks ahead of the switch, and the switch itself by whatever it is shown to do. -/
import Derived.Test.YtcgabodkegcpgaaGreatDoorKer
import Derived.Test.YtcgabodkegcpgaaGreatDoorMem
namespace Go.Proofs.YtcgabodkegcpgaaGreatDoor
open Go.RowKit
set_option linter.unusedVariables false

/-- The calls' table lies in memory as the program's text lays it. -/
structure Tab (w : World) : Prop where
  t : ∀ i, i < 20 → w.cell? ⟨0, i * 4, none⟩ = some (.bool (there i))
  a : ∀ i j, i < 20 → j < 3 → w.cell? ⟨0, i * 4 + 1 + j, none⟩ = some (.int .i64 ((argKinds i).getD j 0))
theorem Tab.same {w w' : World} (T : Tab w) (h : w'.heap[0]? = w.heap[0]?) : Tab w' :=
  ⟨fun i hi => (World.cell?_of_block (w := w) (a := ⟨0, i * 4, none⟩) h).trans (T.t i hi), fun i j hi hj => (World.cell?_of_block (w := w) (a := ⟨0, i * 4 + 1 + j, none⟩) h).trans (T.a i j hi hj)⟩
theorem Tab.lt {w : World} (T : Tab w) : 0 < w.heap.size := World.block_lt_of_cell? w ⟨0, 0 * 4, none⟩ (T.t 0 (by omega))
theorem Tab.alloc {w : World} (T : Tab w) (o : Obj) : Tab (w.alloc o) := T.same (Below.heap_alloc w o 0 T.lt)
theorem Tab.drewN {w : World} (T : Tab w) (n : Nat) : Tab (w.drewN n) := T.same rfl
theorem Tab.keeps {bf bs bd : Nat} {w w' : World} (T : Tab w) (k : Keeps bf bs bd w w') (h1 : 0 < bf) (h2 : 0 < bs) (h3 : 0 < bd) : Tab w' := T.same (k.block 0 T.lt (by omega) (by omega) (by omega))

section
variable {bk bf bs bd : Nat} {K : Ker} {w : World}
theorem argKinds_range : ∀ i, i < 20 → ∀ j, j < 3 → 0 ≤ (argKinds i).getD j 0 ∧ (argKinds i).getD j 0 ≤ 6 := by decide

theorem quiet_more {P : Program} {f : FuncId} {args : Array Value} {W : World} {a n : Nat} {v : Value} (h : Calls P f args (W.drewN (a + n)) fun e w' => e = .returned v ∧ w' = W.drewN (a + n)) :
    Calls P f args (W.drewN (a + n)) fun e w'' => e = .returned v ∧ ∃ m, w'' = W.drewN (a + m) := h.mono fun _ _ ⟨he, hm⟩ => ⟨he, n, hm⟩

set_option maxHeartbeats 1000000 in
theorem call_rep (R : Rep w bk bf bs bd K) (T : Tab w) (slot call a b c : Int)
    (Hdo : Hid (∀ s n : Nat, slot = s → call = n → s < K.nS → n < 20 → (fits K ((argKinds n).getD 0 0) a = true ∧ fits K ((argKinds n).getD 1 0) b = true ∧ fits K ((argKinds n).getD 2 0) c = true) →
      ∀ w1, Rep w1 bk bf bs bd K → Calls Tryz.prog 36 #[.pointer (some ⟨bk, 0, none⟩), .int .i64 slot, .int .i64 call, .agg #[.int .i64 a, .int .i64 b, .int .i64 c]] w1 (Ends bk bf bs bd w1 (kDo K s n a b c)))) :
    Calls Tryz.prog 16 #[.pointer (some ⟨bk, 0, none⟩), .int .i64 slot, .int .i64 call, .agg #[.int .i64 a, .int .i64 b, .int .i64 c]] w (Ends bk bf bs bd w (kCall K slot call a b c)) := by
  have HR : Hid (Rep w bk bf bs bd K) := R
  have HT : Hid (Tab w) := T
  have m2 := R.hS
  have k1 := fun o => (HR.out.alloc o).k1
  clear R T
  by_cases h1 : 0 ≤ call ∧ call < 20
  · obtain ⟨n, rfl⟩ := Int.eq_ofNat_of_zero_le h1.1
    have hn : n < 20 := by omega
    have e1 : oneB n 20 = true := by unfold oneB; simp; omega
    have c1 := fun o => (HT.out.alloc o).t n hn
    by_cases h2 : n = 0
    · have e2 : there n = false := by rw [h2]; rfl
      have E : Hid (kCall K slot n a b c = ⟨K, 0, 2⟩) := by unfold kCall Hid; rw [if_pos (Or.inr (by omega))]
      clear h1 h2
      go_enter Tryz.func16, Tryz.ntmps16
      go_wp2_with fail
      refine (isOne_any _ _ _).mono ?_
      rintro e w1 ⟨rfl, rfl⟩
      go_wp2
      go_ret2
      exact Ends.mk E (HR.out.alloc _) ((Keeps.refl w).alloc _)
    · have e2 : there n = true := by unfold there; simpa using h2
      by_cases h3 : 0 ≤ slot ∧ slot < K.nS
      · obtain ⟨s, rfl⟩ := Int.eq_ofNat_of_zero_le h3.1
        have hs : s < K.nS := by omega
        have e3 : oneB s K.nS = true := by unfold oneB; simp; omega
        have c2 := fun o => (HR.out.alloc o).sk hs
        by_cases h4 : K.S s 0 = 2
        · have e4 : (K.S s 0 != 2) = false := by simpa using h4
          have E4 : Hid (fits K ((argKinds n).getD 0 0) a = false ∨ fits K ((argKinds n).getD 1 0) b = false ∨ fits K ((argKinds n).getD 2 0) c = false → kCall K s n a b c = ⟨K, 0, 4⟩) := by
            intro h; unfold kCall; rw [if_neg (by omega), if_neg (by simp only [Int.toNat_natCast]; omega), if_pos (by simp only [Int.toNat_natCast]; exact h)]
          have E0 : Hid (fits K ((argKinds n).getD 0 0) a = true ∧ fits K ((argKinds n).getD 1 0) b = true ∧ fits K ((argKinds n).getD 2 0) c = true → kCall K s n a b c = kDo K s n a b c) := by
            intro h; unfold kCall; rw [if_neg (by omega), if_neg (by simp only [Int.toNat_natCast]; omega), if_neg (by simp only [Int.toNat_natCast]; rw [h.1, h.2.1, h.2.2]; simp)]; simp only [Int.toNat_natCast]
          have g0 := argKinds_range n hn 0 (by omega)
          have g1 := argKinds_range n hn 1 (by omega)
          have g2 := argKinds_range n hn 2 (by omega)
          have q0 := fun o => (HT.out.alloc o).a n 0 hn (by omega)
          have q1 := fun o => (HT.out.alloc o).a n 1 hn (by omega)
          have q2 := fun o => (HT.out.alloc o).a n 2 hn (by omega)
          generalize ht0 : (argKinds n).getD 0 0 = t0 at *
          generalize ht1 : (argKinds n).getD 1 0 = t1 at *
          generalize ht2 : (argKinds n).getD 2 0 = t2 at *
          have Ht0 : Hid (_ = _) := ht0
          have Ht1 : Hid (_ = _) := ht1
          have Ht2 : Hid (_ = _) := ht2
          clear ht0 ht1 ht2 h1 h3 h4
          have i0 : ∀ w, (Instr.index 120 (.agg #[.int .i64 t0, .int .i64 t1, .int .i64 t2]) (.int .i64 0)).run Tryz.prog w = .ok (.int .i64 t0) w := fun _ => by kernel_rfl
          have i1 : ∀ w, (Instr.index 120 (.agg #[.int .i64 t0, .int .i64 t1, .int .i64 t2]) (.int .i64 1)).run Tryz.prog w = .ok (.int .i64 t1) w := fun _ => by kernel_rfl
          have i2 : ∀ w, (Instr.index 120 (.agg #[.int .i64 t0, .int .i64 t1, .int .i64 t2]) (.int .i64 2)).run Tryz.prog w = .ok (.int .i64 t2) w := fun _ => by kernel_rfl
          obtain ⟨g01, g02⟩ := g0
          obtain ⟨g11, g12⟩ := g1
          obtain ⟨g21, g22⟩ := g2
          go_enter Tryz.func16, Tryz.ntmps16
          go_wp2_with fail
          refine (isOne_any _ _ _).mono ?_
          rintro e w1 ⟨rfl, rfl⟩
          go_wp2_with fail
          refine (isOne_any _ _ _).mono ?_
          rintro e w1 ⟨rfl, rfl⟩
          go_wp2_with fail
          go_loopw [45] (fun i w' => ∃ k : Nat, k ≤ 3 ∧ i = .int .i64 k ∧ (1 ≤ k → fits K t0 a = true) ∧ (2 ≤ k → fits K t1 b = true) ∧ (3 ≤ k → fits K t2 c = true) ∧ ∃ nq, w' = (w.alloc (.cells #[.int .i64 a, .int .i64 b, .int .i64 c] 25)).drewN nq) (fun i _ => 3 - (intOf i).toNat)
          case atStart => exact ⟨0, by omega, rfl, by omega, by omega, by omega, 0, rfl⟩
          case round =>
            obtain ⟨k, hk, rfl, f0, f1, f2, nq, rfl⟩ := hrel
            obtain rfl | rfl | rfl | rfl : k = 0 ∨ k = 1 ∨ k = 2 ∨ k = 3 := by omega
            · by_cases z : t0 = 0
              · have y : fits K t0 a = true := by simp [fits, z]
                have z' : (t0 != 0) = false := by simpa using z
                have Hy : Hid (fits K t0 a = true) := y
                clear z y
                go_wp2
                go_quiet (fail)
                go_wp2
                exact ⟨⟨1, by omega, rfl, fun _ => Hy.out, by omega, by omega, _, rfl⟩, by simp [intOf]⟩
              · have z' : (t0 != 0) = true := by simpa using z
                by_cases y : oneB a (howMany K t0) = true
                · have Hy : Hid (fits K t0 a = true) := by unfold fits Hid; unfold oneB at y; rw [y]; simp
                  clear z
                  go_wp2
                  go_quiet ((first | (go_at_call 35; exact quiet_more (howMany_rep ((HR.out.alloc _).drewN _) t0 g01 g02)) | (go_at_call 34; exact quiet_more (isOne_any _ _ _))))
                  go_wp2
                  exact ⟨⟨1, by omega, rfl, fun _ => Hy.out, by omega, by omega, _, rfl⟩, by simp [intOf]⟩
                · have y' : oneB a (howMany K t0) = false := by simpa using y
                  have Hy : Hid (fits K t0 a = false) := by unfold fits Hid; unfold oneB at y'; rw [y']; simpa using z
                  clear z y
                  have E : Hid (kCall K s n a b c = ⟨K, 0, 4⟩) := E4.out (Or.inl Hy.out)
                  go_wp2
                  go_quiet ((first | (go_at_call 35; exact quiet_more (howMany_rep ((HR.out.alloc _).drewN _) t0 g01 g02)) | (go_at_call 34; exact quiet_more (isOne_any _ _ _))))
                  go_wp2
                  go_ret2
                  exact Ends.mk E (((HR.out.alloc _).drewN _).drewN _) ((((Keeps.refl w).alloc _).drewN _).drewN _)
            · by_cases z : t1 = 0
              · have y : fits K t1 b = true := by simp [fits, z]
                have z' : (t1 != 0) = false := by simpa using z
                have Hy : Hid (fits K t1 b = true) := y
                clear z y
                go_wp2
                go_quiet (fail)
                go_wp2
                exact ⟨⟨2, by omega, rfl, fun _ => f0 (by omega), fun _ => Hy.out, by omega, _, rfl⟩, by simp [intOf]⟩
              · have z' : (t1 != 0) = true := by simpa using z
                by_cases y : oneB b (howMany K t1) = true
                · have Hy : Hid (fits K t1 b = true) := by unfold fits Hid; unfold oneB at y; rw [y]; simp
                  clear z
                  go_wp2
                  go_quiet ((first | (go_at_call 35; exact quiet_more (howMany_rep ((HR.out.alloc _).drewN _) t1 g11 g12)) | (go_at_call 34; exact quiet_more (isOne_any _ _ _))))
                  go_wp2
                  exact ⟨⟨2, by omega, rfl, fun _ => f0 (by omega), fun _ => Hy.out, by omega, _, rfl⟩, by simp [intOf]⟩
                · have y' : oneB b (howMany K t1) = false := by simpa using y
                  have Hy : Hid (fits K t1 b = false) := by unfold fits Hid; unfold oneB at y'; rw [y']; simpa using z
                  clear z y
                  have E : Hid (kCall K s n a b c = ⟨K, 0, 4⟩) := E4.out (Or.inr (Or.inl Hy.out))
                  go_wp2
                  go_quiet ((first | (go_at_call 35; exact quiet_more (howMany_rep ((HR.out.alloc _).drewN _) t1 g11 g12)) | (go_at_call 34; exact quiet_more (isOne_any _ _ _))))
                  go_wp2
                  go_ret2
                  exact Ends.mk E (((HR.out.alloc _).drewN _).drewN _) ((((Keeps.refl w).alloc _).drewN _).drewN _)
            · by_cases z : t2 = 0
              · have y : fits K t2 c = true := by simp [fits, z]
                have z' : (t2 != 0) = false := by simpa using z
                have Hy : Hid (fits K t2 c = true) := y
                clear z y
                go_wp2
                go_quiet (fail)
                go_wp2
                exact ⟨⟨3, by omega, rfl, fun _ => f0 (by omega), fun _ => f1 (by omega), fun _ => Hy.out, _, rfl⟩, by simp [intOf]⟩
              · have z' : (t2 != 0) = true := by simpa using z
                by_cases y : oneB c (howMany K t2) = true
                · have Hy : Hid (fits K t2 c = true) := by unfold fits Hid; unfold oneB at y; rw [y]; simp
                  clear z
                  go_wp2
                  go_quiet ((first | (go_at_call 35; exact quiet_more (howMany_rep ((HR.out.alloc _).drewN _) t2 g21 g22)) | (go_at_call 34; exact quiet_more (isOne_any _ _ _))))
                  go_wp2
                  exact ⟨⟨3, by omega, rfl, fun _ => f0 (by omega), fun _ => f1 (by omega), fun _ => Hy.out, _, rfl⟩, by simp [intOf]⟩
                · have y' : oneB c (howMany K t2) = false := by simpa using y
                  have Hy : Hid (fits K t2 c = false) := by unfold fits Hid; unfold oneB at y'; rw [y']; simpa using z
                  clear z y
                  have E : Hid (kCall K s n a b c = ⟨K, 0, 4⟩) := E4.out (Or.inr (Or.inr Hy.out))
                  go_wp2
                  go_quiet ((first | (go_at_call 35; exact quiet_more (howMany_rep ((HR.out.alloc _).drewN _) t2 g21 g22)) | (go_at_call 34; exact quiet_more (isOne_any _ _ _))))
                  go_wp2
                  go_ret2
                  exact Ends.mk E (((HR.out.alloc _).drewN _).drewN _) ((((Keeps.refl w).alloc _).drewN _).drewN _)
            · have E := E0.out ⟨f0 (by omega), f1 (by omega), f2 (by omega)⟩
              have D := Hdo.out s n rfl rfl hs hn (by rw [Ht0.out, Ht1.out, Ht2.out]; exact ⟨f0 (by omega), f1 (by omega), f2 (by omega)⟩)
              have HE : Hid _ := E
              have HD : Hid _ := D
              clear E D
              go_wp2_with fail
              refine (HD.out _ ((HR.out.alloc _).drewN _)).mono ?_
              rintro e w1 ⟨rfl, R1, q1⟩
              go_wp2
              go_ret2
              rw [HE.out]
              exact ⟨rfl, R1, (((Keeps.refl w).alloc _).drewN _).trans q1⟩
        · have e4 : (K.S s 0 != 2) = true := by simpa using h4
          have E : Hid (kCall K s n a b c = ⟨K, 0, 3⟩) := by unfold kCall Hid; rw [if_neg (by omega), if_pos (Or.inr (by simpa using h4))]
          clear h4 h1 h3
          go_enter Tryz.func16, Tryz.ntmps16
          go_wp2_with fail
          refine (isOne_any _ _ _).mono ?_
          rintro e w1 ⟨rfl, rfl⟩
          go_wp2_with fail
          refine (isOne_any _ _ _).mono ?_
          rintro e w1 ⟨rfl, rfl⟩
          go_wp2
          go_ret2
          exact Ends.mk E (HR.out.alloc _) ((Keeps.refl w).alloc _)
      · have e3 : oneB slot K.nS = false := by unfold oneB; simp; omega
        have E : Hid (kCall K slot n a b c = ⟨K, 0, 3⟩) := by unfold kCall Hid; rw [if_neg (by omega), if_pos (Or.inl h3)]
        clear h1 h3
        go_enter Tryz.func16, Tryz.ntmps16
        go_wp2_with fail
        refine (isOne_any _ _ _).mono ?_
        rintro e w1 ⟨rfl, rfl⟩
        go_wp2_with fail
        refine (isOne_any _ _ _).mono ?_
        rintro e w1 ⟨rfl, rfl⟩
        go_wp2
        go_ret2
        exact Ends.mk E (HR.out.alloc _) ((Keeps.refl w).alloc _)
  · have e1 : oneB call 20 = false := by unfold oneB; simp; omega
    have E : Hid (kCall K slot call a b c = ⟨K, 0, 2⟩) := by unfold kCall Hid; rw [if_pos (Or.inl h1)]
    clear h1
    go_enter Tryz.func16, Tryz.ntmps16
    go_wp2_with fail
    refine (isOne_any _ _ _).mono ?_
    rintro e w1 ⟨rfl, rfl⟩
    go_wp2
    go_ret2
    exact Ends.mk E (HR.out.alloc _) ((Keeps.refl w).alloc _)
end
end Go.Proofs.YtcgabodkegcpgaaGreatDoor
