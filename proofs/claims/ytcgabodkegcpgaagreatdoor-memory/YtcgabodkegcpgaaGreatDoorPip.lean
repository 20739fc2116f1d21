/- What the kernel's functions of pipes do: countEnd, openFile, Pipe. -/
import Derived.Test.YtcgabodkegcpgaaGreatDoorMem
namespace Go.Proofs.YtcgabodkegcpgaaGreatDoor
open Go.RowKit
set_option linter.unusedVariables false

section
variable {bk bf bs bd : Nat} {K : Ker} {w : World}
theorem Rep.d0 (R : Rep w bk bf bs bd K) {i : Nat} (hi : i < K.nD) : w.cell? ⟨bd, i * 5, none⟩ = some (.int .i64 (K.D i 0)) := R.d i 0 hi (by omega)
theorem Rep.d1 (R : Rep w bk bf bs bd K) {i : Nat} (hi : i < K.nD) : w.cell? ⟨bd, i * 5 + 1, none⟩ = some (.int .i64 (K.D i 1)) := R.d i 1 hi (by omega)
theorem Rep.d2 (R : Rep w bk bf bs bd K) {i : Nat} (hi : i < K.nD) : w.cell? ⟨bd, i * 5 + 2, none⟩ = some (.int .i64 (K.D i 2)) := R.d i 2 hi (by omega)
theorem Rep.d3 (R : Rep w bk bf bs bd K) {i : Nat} (hi : i < K.nD) : w.cell? ⟨bd, i * 5 + 3, none⟩ = some (.int .i64 (K.D i 3)) := R.d i 3 hi (by omega)
theorem Rep.d4 (R : Rep w bk bf bs bd K) {i : Nat} (hi : i < K.nD) : w.cell? ⟨bd, i * 5 + 4, none⟩ = some (.int .i64 (K.D i 4)) := R.d i 4 hi (by omega)

theorem Rep.noDuct (R : Rep w bk bf bs bd K) {d : Nat} (hd : d < K.nD) (f : Int) :
    Rep (((((w.setCell ⟨bd, d * 5, none⟩ (.int .i64 f)).setCell ⟨bd, d * 5 + 1, none⟩ (.int .i64 0)).setCell ⟨bd, d * 5 + 2, none⟩ (.int .i64 0)).setCell ⟨bd, d * 5 + 3, none⟩ (.int .i64 0)).setCell ⟨bd, d * 5 + 4, none⟩ (.int .i64 0)) bk bf bs bd (K.noDuct d f) := by
  have Ra := R.setD (c := 0) (o := d * 5) hd (by omega) rfl f
  have ha : d < (K.setD d 0 f).nD := hd
  have Rb := Ra.setD (c := 1) (o := d * 5 + 1) ha (by omega) rfl 0
  have hb : d < ((K.setD d 0 f).setD d 1 0).nD := ha
  have Rc := Rb.setD (c := 2) (o := d * 5 + 2) hb (by omega) rfl 0
  have hc : d < (((K.setD d 0 f).setD d 1 0).setD d 2 0).nD := hb
  have Rd := Rc.setD (c := 3) (o := d * 5 + 3) hc (by omega) rfl 0
  have he : d < ((((K.setD d 0 f).setD d 1 0).setD d 2 0).setD d 3 0).nD := hc
  exact Rd.setD (c := 4) (o := d * 5 + 4) he (by omega) rfl 0

set_option maxHeartbeats 1000000 in
theorem countEnd_rep (R : Rep w bk bf bs bd K) {d : Nat} (b : Bool) (m : Int) (hd : d < K.nD) (hm : -1 ≤ m ∧ m ≤ 1) (h3 : 0 ≤ K.D d 3 ∧ K.D d 3 ≤ 24) (h4 : 0 ≤ K.D d 4 ∧ K.D d 4 ≤ 24) :
    Calls Tryz.prog 110 #[.pointer (some ⟨bk, 0, none⟩), .agg #[.int .i64 d, .bool b], .int .i64 m] w fun e w' => e = .returned (.tuple #[]) ∧ Rep w' bk bf bs bd (K.count d b m) ∧ Keeps bf bs bd w w' := by
  have HR : Hid (Rep w bk bf bs bd K) := R
  have hn := R.hD
  have k2 := fun o => (HR.out.alloc o).k2
  have c3 := fun o => (HR.out.alloc o).d3 hd
  have c4 := fun o => (HR.out.alloc o).d4 hd
  have z := fun o => (HR.out.alloc o).zd
  clear R
  obtain ⟨hm1, hm2⟩ := hm
  obtain ⟨h31, h32⟩ := h3
  obtain ⟨h41, h42⟩ := h4
  cases b
  · go_enter Tryz.func110, Tryz.ntmps110
    go_wp2
    go_region
    all_goals
      go_wp2
      go_end0
      exact ⟨rfl, (HR.out.alloc _).drew.setD hd (by omega) rfl _, ((Keeps.refl w).alloc _).drew.setD _ _⟩
  · go_enter Tryz.func110, Tryz.ntmps110
    go_wp2
    go_region
    all_goals
      go_wp2
      go_end0
      exact ⟨rfl, (HR.out.alloc _).drew.setD hd (by omega) rfl _, ((Keeps.refl w).alloc _).drew.setD _ _⟩

set_option maxHeartbeats 1000000 in
theorem openFile_rep (R : Rep w bk bf bs bd K) {s x d : Nat} (b : Bool) (hs : s < K.nS) (hx : x < 4) (hd : d < K.nD) (h3 : 0 ≤ K.D d 3 ∧ K.D d 3 ≤ 24) (h4 : 0 ≤ K.D d 4 ∧ K.D d 4 ≤ 24) :
    Calls Tryz.prog 102 #[.pointer (some ⟨bk, 0, none⟩), .int .i64 s, .int .i64 x, .agg #[.int .i64 d, .bool b]] w fun e w' => e = .returned (.tuple #[]) ∧ Rep w' bk bf bs bd (K.openFile s x d b) ∧ Keeps bf bs bd w w' := by
  have HR : Hid (Rep w bk bf bs bd K) := R
  have hn := R.hS
  have k1 := fun o => (HR.out.alloc o).k1
  have c3 := fun o => (HR.out.alloc o).ff hs hx
  have c4 := fun o => (HR.out.alloc o).fe hs hx
  have z := fun o => (HR.out.alloc o).zs
  have ne : bs ≠ w.heap.size := Nat.ne_of_lt R.ls
  have ne' : w.heap.size ≠ bs := fun e => ne e.symm
  have H3 := h3
  have H4 := h4
  clear R
  go_enter Tryz.func102, Tryz.ntmps102
  go_wp2
  go_region
  all_goals
    go_wp2_with fail
    refine (countEnd_rep (K := K.setFile s x d b) (((HR.out.alloc _).setS (c := 11 + x * 2) hs (by omega) (not_isBf x) (by omega) _).setB (c := 12 + x * 2) hs (isBf x hx) (by omega) _).drew b 1 hd (by omega) H3 H4).mono ?_
    rintro e w1 ⟨rfl, R1, q1⟩
    go_wp2
    go_end0
    exact ⟨rfl, R1, ((((Keeps.refl w).alloc _).setS _ _).setS _ _).drew.trans q1⟩

theorem isFile_at (R : Rep w bk bf bs bd K) {i p : Nat} {q : Int} (hi : i < K.nS) (hq : q = p) (hp : p < 4) :
    Calls Tryz.prog 101 #[.pointer (some ⟨bk, 0, none⟩), .int .i64 i, .int .i64 q] w fun e w' => e = .returned (.bool (K.S i (11 + p * 2) != -1)) ∧ w' = w := by
  subst hq; exact isFile_rep R hi hp
theorem openFile_at (R : Rep w bk bf bs bd K) {s x d : Nat} {q : Int} (b : Bool) (hs : s < K.nS) (hq : q = x) (hx : x < 4) (hd : d < K.nD) (h3 : 0 ≤ K.D d 3 ∧ K.D d 3 ≤ 24) (h4 : 0 ≤ K.D d 4 ∧ K.D d 4 ≤ 24) :
    Calls Tryz.prog 102 #[.pointer (some ⟨bk, 0, none⟩), .int .i64 s, .int .i64 q, .agg #[.int .i64 d, .bool b]] w fun e w' => e = .returned (.tuple #[]) ∧ Rep w' bk bf bs bd (K.openFile s x d b) ∧ Keeps bf bs bd w w' := by
  subst hq; exact openFile_rep R b hs hx hd h3 h4

theorem noDuct_bounds (K : Ker) (n : Nat) (f : Int) : (0 ≤ (K.noDuct n f).D n 3 ∧ (K.noDuct n f).D n 3 ≤ 24) ∧ (0 ≤ (K.noDuct n f).D n 4 ∧ (K.noDuct n f).D n 4 ≤ 24) := by
  simp [Ker.noDuct, Ker.setD, upd]
theorem noDuct_bounds2 (K : Ker) (n : Nat) (f : Int) (s x : Nat) : (0 ≤ ((K.noDuct n f).openFile s x n false).D n 3 ∧ ((K.noDuct n f).openFile s x n false).D n 3 ≤ 24) ∧ (0 ≤ ((K.noDuct n f).openFile s x n false).D n 4 ∧ ((K.noDuct n f).openFile s x n false).D n 4 ≤ 24) := by
  simp [Ker.noDuct, Ker.openFile, Ker.count, Ker.setFile, Ker.setS, Ker.setB, Ker.setD, upd]

set_option maxHeartbeats 1000000 in
theorem pipe_rep (R : Rep w bk bf bs bd K) (G : Good K) {s n f x : Nat} (hs : s < K.nS) (hn : n < K.nD) (hf : f < K.nF) (hx : x < 4) :
    Calls Tryz.prog 71 #[.pointer (some ⟨bk, 0, none⟩), .int .i64 s, .agg #[.int .i64 n, .int .i64 f, .int .i64 x]] w (Ends bk bf bs bd w (kPipe K s n f x)) := by
  have HR : Hid (Rep w bk bf bs bd K) := R
  have m1 := R.hF; have m2 := R.hS; have m3 := R.hD
  have k2 := fun o => (HR.out.alloc o).k2
  have c0 := fun o => (HR.out.alloc o).d0 hn
  clear R
  by_cases h1 : K.D n 0 = -1
  · have e1 : (K.D n 0 != -1) = false := by simpa using h1
    by_cases h2 : K.F f 0 = 0
    · have e2 : (K.F f 0 == 0) = true := by simpa using h2
      by_cases h3 : x = 3
      · subst h3
        have E : Hid (kPipe K s n f 3 = ⟨K, 0, 8⟩) := by unfold kPipe; simp [h1, h2, Hid]
        clear h1 h2
        go_enter Tryz.func71, Tryz.ntmps71
        go_wp2
        go_quiet (fail)
        go_wp2_with fail
        refine (isFree_rep ((HR.out.alloc _).drewN _) hf).mono ?_
        rintro e w1 ⟨rfl, rfl⟩
        go_wp2
        go_ret2
        exact Ends.mk E ((HR.out.alloc _).drewN _) (((Keeps.refl w).alloc _).drewN _)
      · have e3 : ((x : Int) + 1 == 4) = false := by rw [beq_eq_false_iff_ne]; omega
        by_cases h4 : K.file s x = -1
        · have e4 : (K.S s (11 + x * 2) != -1) = false := by simpa [Ker.file] using h4
          by_cases h5 : K.file s (x + 1) = -1
          · have e5 : (K.S s (11 + (x + 1) * 2) != -1) = false := by simpa [Ker.file] using h5
            have E : Hid (kPipe K s n f x = ⟨(((K.become f 3 (-1)).noDuct n f).openFile s x n false).openFile s (x + 1) n true, 0, 0⟩) := by unfold kPipe; simp [h1, h2, h3, h4, h5, Hid]
            clear h1 h2 h4 h5
            go_enter Tryz.func71, Tryz.ntmps71
            go_wp2
            go_quiet (fail)
            go_wp2_with fail
            refine (isFree_rep ((HR.out.alloc _).drewN _) hf).mono ?_
            rintro e w1 ⟨rfl, rfl⟩
            go_wp2_with fail
            refine (isFile_rep ((HR.out.alloc _).drewN _) hs hx).mono ?_
            rintro e w1 ⟨rfl, rfl⟩
            go_wp2_with fail
            refine (isFile_at (p := x + 1) ((HR.out.alloc _).drewN _) hs (by omega) (by omega)).mono ?_
            rintro e w1 ⟨rfl, rfl⟩
            go_wp2_with fail
            refine (become_rep ((HR.out.alloc _).drewN _) _ _ hf).mono ?_
            rintro e w1 ⟨rfl, R1, q1⟩
            have r0 := R1.k2
            have r1 := R1.d0 hn
            have r2 := R1.d1 hn
            have r3 := R1.d2 hn
            have r4 := R1.d3 hn
            have r5 := R1.d4 hn
            have r6 := R1.zd
            have r7 : n < (K.become f 3 (-1)).nD := hn
            have r8 : (K.become f 3 (-1)).nD ≤ 4 := m3
            have r9 : s < (K.become f 3 (-1)).nS := hs
            generalize K.become f 3 (-1) = K1 at *
            have t1 : n < (K1.noDuct n f).nD := r7
            have t2 : s < (K1.noDuct n f).nS := r9
            have T1 := noDuct_bounds K1 n f
            have T2 := noDuct_bounds2 K1 n f s x
            have R2 := R1.noDuct r7 f
            have HR2 : Hid _ := R2
            clear R2
            have t3 : n < ((K1.noDuct n f).openFile s x n false).nD := t1
            have t4 : s < ((K1.noDuct n f).openFile s x n false).nS := t2
            have HT1 : Hid _ := T1
            have HT2 : Hid _ := T2
            clear T1 T2
            have HK1 : Hid _ := q1
            have HR1 : Hid _ := R1
            clear q1 R1
            go_wp2_with fail
            refine (openFile_rep HR2.out false t2 hx t1 HT1.out.1 HT1.out.2).mono ?_
            rintro e w2 ⟨rfl, R3, q3⟩
            have HR3 : Hid _ := R3
            have HK3 : Hid _ := q3
            clear R3 q3
            go_wp2_with fail
            refine (openFile_at (x := x + 1) HR3.out true t4 (by omega) (by omega) t3 HT2.out.1 HT2.out.2).mono ?_
            rintro e w3 ⟨rfl, R4, q4⟩
            have HR4 : Hid _ := R4
            have HK4 : Hid _ := q4
            clear R4 q4
            go_wp2
            go_ret2
            exact Ends.mk E HR4.out (((((((((((Keeps.refl w).alloc _).drewN _).trans HK1.out).setD _ _).setD _ _).setD _ _).setD _ _).setD _ _).trans HK3.out).trans HK4.out)
          · have e5 : (K.S s (11 + (x + 1) * 2) != -1) = true := by simpa [Ker.file] using h5
            have E : Hid (kPipe K s n f x = ⟨K, 0, 8⟩) := by unfold kPipe; simp [h1, h2, h3, h4, h5, Hid]
            clear h1 h2 h4 h5
            go_enter Tryz.func71, Tryz.ntmps71
            go_wp2
            go_quiet (fail)
            go_wp2_with fail
            refine (isFree_rep ((HR.out.alloc _).drewN _) hf).mono ?_
            rintro e w1 ⟨rfl, rfl⟩
            go_wp2_with fail
            refine (isFile_rep ((HR.out.alloc _).drewN _) hs hx).mono ?_
            rintro e w1 ⟨rfl, rfl⟩
            go_wp2_with fail
            refine (isFile_at (p := x + 1) ((HR.out.alloc _).drewN _) hs (by omega) (by omega)).mono ?_
            rintro e w1 ⟨rfl, rfl⟩
            go_wp2
            go_ret2
            exact Ends.mk E ((HR.out.alloc _).drewN _) (((Keeps.refl w).alloc _).drewN _)
        · have e4 : (K.S s (11 + x * 2) != -1) = true := by simpa [Ker.file] using h4
          have E : Hid (kPipe K s n f x = ⟨K, 0, 8⟩) := by unfold kPipe; simp [h1, h2, h3, h4, Hid]
          clear h1 h2 h4
          go_enter Tryz.func71, Tryz.ntmps71
          go_wp2
          go_quiet (fail)
          go_wp2_with fail
          refine (isFree_rep ((HR.out.alloc _).drewN _) hf).mono ?_
          rintro e w1 ⟨rfl, rfl⟩
          go_wp2_with fail
          refine (isFile_rep ((HR.out.alloc _).drewN _) hs hx).mono ?_
          rintro e w1 ⟨rfl, rfl⟩
          go_wp2
          go_ret2
          exact Ends.mk E ((HR.out.alloc _).drewN _) (((Keeps.refl w).alloc _).drewN _)
    · have e2 : (K.F f 0 == 0) = false := by simpa using h2
      have E : Hid (kPipe K s n f x = ⟨K, 0, 5⟩) := by unfold kPipe; simp [h1, h2, Hid]
      clear h1 h2
      go_enter Tryz.func71, Tryz.ntmps71
      go_wp2
      go_quiet (fail)
      go_wp2_with fail
      refine (isFree_rep ((HR.out.alloc _).drewN _) hf).mono ?_
      rintro e w1 ⟨rfl, rfl⟩
      go_wp2
      go_ret2
      exact Ends.mk E ((HR.out.alloc _).drewN _) (((Keeps.refl w).alloc _).drewN _)
  · have e1 : (K.D n 0 != -1) = true := by simpa using h1
    have E : Hid (kPipe K s n f x = ⟨K, 0, 9⟩) := by unfold kPipe; simp [h1, Hid]
    clear h1
    go_enter Tryz.func71, Tryz.ntmps71
    go_wp2
    go_quiet (fail)
    go_wp2
    go_ret2
    exact Ends.mk E ((HR.out.alloc _).drewN _) (((Keeps.refl w).alloc _).drewN _)
end
end Go.Proofs.YtcgabodkegcpgaaGreatDoor
