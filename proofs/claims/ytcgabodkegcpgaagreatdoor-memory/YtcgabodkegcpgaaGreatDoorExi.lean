/- What the kernel's call Exit does (for every kernel whose numbers are ones). -/
import Derived.Test.YtcgabodkegcpgaaGreatDoorPip
namespace Go.Proofs.YtcgabodkegcpgaaGreatDoor
open Go.RowKit
set_option linter.unusedVariables false

section
variable {bk bf bs bd : Nat} {K : Ker} {w : World}

theorem orphans_sizes (K : Ker) (s : Nat) : ∀ n, (K.orphans s n).nF = K.nF ∧ (K.orphans s n).nS = K.nS ∧ (K.orphans s n).nD = K.nD
  | 0 => ⟨rfl, rfl, rfl⟩
  | n + 1 => by
    unfold Ker.orphans
    split
    · exact orphans_sizes K s n
    · exact orphans_sizes K s n

set_option maxHeartbeats 1000000 in
theorem exit_rep (R : Rep w bk bf bs bd K) {s : Nat} (a y z : Int) (hs : s < K.nS) :
    Calls Tryz.prog 67 #[.pointer (some ⟨bk, 0, none⟩), .int .i64 s, .agg #[.int .i64 a, .int .i64 y, .int .i64 z]] w (Ends bk bf bs bd w (kExit K s a)) := by
  have HR : Hid (Rep w bk bf bs bd K) := R
  have hn := R.hS
  by_cases h0 : s = 0
  · subst h0
    have E : Hid (kExit K 0 a = ⟨K, 0, 7⟩) := by unfold kExit; simp [Hid]
    clear R
    go_enter Tryz.func67, Tryz.ntmps67
    go_wp2
    go_ret2
    exact Ends.mk E (HR.out.alloc _) ((Keeps.refl w).alloc _)
  · have E : Hid (kExit K s a = ⟨((K.setS s 0 3).setS s 19 a).orphans s K.nS, 0, 0⟩) := by unfold kExit; simp [h0, Hid]
    have e0 : ((s : Int) == 0) = false := by rw [beq_eq_false_iff_ne]; omega
    have k1 := fun o => (HR.out.alloc o).k1
    have c0 := fun o => (HR.out.alloc o).sk hs
    have c1 := fun o => (HR.out.alloc o).sc hs
    have z0 := fun o => (HR.out.alloc o).zs
    have n1 := R.ks
    have n2 : bs ≠ bk := fun e => n1 e.symm
    have n3 : bs ≠ w.heap.size := Nat.ne_of_lt R.ls
    have n4 : w.heap.size ≠ bs := fun e => n3 e.symm
    clear R h0
    go_enter Tryz.func67, Tryz.ntmps67
    go_wp2
    go_region
    all_goals
      go_wp2
      go_loopw [32] (fun i w' => ∃ k : Nat, k ≤ K.nS ∧ i = .int .i64 k ∧ Rep w' bk bf bs bd (((K.setS s 0 3).setS s 19 a).orphans s k) ∧ Keeps bf bs bd w w') (fun i _ => K.nS - (intOf i).toNat)
      case atStart =>
        exact ⟨0, by omega, rfl, (((HR.out.alloc _).setS (c := 0) hs (by omega) not_isB0 rfl 3).setS (c := 19) hs (by omega) not_isB19 rfl a).drew, ((((Keeps.refl w).alloc _).setS _ _).setS _ _).drew⟩
      case round =>
        obtain ⟨k, hk, rfl, R1, q1⟩ := hrel
        have HR1 : Hid _ := R1
        have Hq1 : Hid _ := q1
        have sz := orphans_sizes ((K.setS s 0 3).setS s 19 a) s k
        have sz1 : (((K.setS s 0 3).setS s 19 a).orphans s k).nS = K.nS := sz.2.1
        have Hsz : Hid _ := sz1
        by_cases hlt : k < K.nS
        · have hk1 : k < (((K.setS s 0 3).setS s 19 a).orphans s k).nS := by rw [sz1]; exact hlt
          have p0 := R1.k1
          have p1 := R1.sp hk1
          have p2 := R1.zs
          have HO : Hid (((K.setS s 0 3).setS s 19 a).orphans s (k + 1) = if (((K.setS s 0 3).setS s 19 a).orphans s k).S k 1 = s then (((K.setS s 0 3).setS s 19 a).orphans s k).setS k 1 0 else ((K.setS s 0 3).setS s 19 a).orphans s k) := rfl
          clear R1 q1 sz sz1
          generalize hK1 : ((K.setS s 0 3).setS s 19 a).orphans s k = K1 at *
          clear hK1
          by_cases h2 : K1.S k 1 = s
          · have e2 : (K1.S k 1 == (s : Int)) = true := by simpa using h2
            have HO2 : Hid (((K.setS s 0 3).setS s 19 a).orphans s (k + 1) = K1.setS k 1 0) := by unfold Hid; rw [HO.out, if_pos h2]
            have m1 : K1.nS ≤ 6 := by rw [Hsz.out]; exact hn
            clear h2
            go_wp2_with fail
            refine (isChild_rep HR1.out s hk1).mono ?_
            rintro e w2 ⟨rfl, rfl⟩
            go_wp2
            refine ⟨⟨k + 1, by omega, by go_num, ?_, Hq1.out.setS _ _⟩, by simp [intOf]; omega⟩
            rw [HO2.out]
            exact HR1.out.setS (c := 1) hk1 (by omega) not_isB1 rfl 0
          · have e2 : (K1.S k 1 == (s : Int)) = false := by simpa using h2
            have HO2 : Hid (((K.setS s 0 3).setS s 19 a).orphans s (k + 1) = K1) := by unfold Hid; rw [HO.out, if_neg h2]
            clear h2
            go_wp2_with fail
            refine (isChild_rep HR1.out s hk1).mono ?_
            rintro e w2 ⟨rfl, rfl⟩
            go_wp2
            refine ⟨⟨k + 1, by omega, by go_num, ?_, Hq1.out⟩, by simp [intOf]; omega⟩
            rw [HO2.out]
            exact HR1.out
        · obtain rfl : k = K.nS := by omega
          clear R1 q1 sz sz1
          go_wp2
          go_ret2
          exact Ends.mk E HR1.out Hq1.out
end
end Go.Proofs.YtcgabodkegcpgaaGreatDoor
