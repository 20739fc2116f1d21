/- What the kernel's calls of processes and pages do: Unmap, Protect, Spawn, Start, Give, Dup, Drop (each for every kernel whose numbers are ones). -/
import Derived.Test.YtcgabodkegcpgaaGreatDoorPip
namespace Go.Proofs.YtcgabodkegcpgaaGreatDoor
open Go.RowKit
set_option linter.unusedVariables false

section
variable {bk bf bs bd : Nat} {K : Ker} {w : World}

set_option maxHeartbeats 400000 in
theorem isEmbryoOf_rep (R : Rep w bk bf bs bd K) {s c : Nat} (hc : c < K.nS) :
    Calls Tryz.prog 98 #[.pointer (some ⟨bk, 0, none⟩), .int .i64 s, .int .i64 c] w fun e w' => e = .returned (.bool (K.embryo s c)) ∧ w' = w := by
  have HR : Hid (Rep w bk bf bs bd K) := R
  have k1 := R.k1; have hn := R.hS; have c0 := R.sk hc
  clear R
  by_cases h1 : K.S c 1 = s
  · have e1 : (K.S c 1 == (s : Int)) = true := by simpa using h1
    have E : Hid (K.embryo s c = (K.S c 0 == 1)) := by unfold Ker.embryo Hid; rw [e1]; simp
    go_enter Tryz.func98, Tryz.ntmps98
    go_wp2_with fail
    refine (isChild_rep HR.out s hc).mono ?_
    rintro e w1 ⟨rfl, rfl⟩
    go_wp2
    go_ret
    rw [E.out]
    exact ⟨rfl, rfl⟩
  · have e1 : (K.S c 1 == (s : Int)) = false := by simpa using h1
    have E : Hid (K.embryo s c = false) := by unfold Ker.embryo Hid; rw [e1]; simp
    go_enter Tryz.func98, Tryz.ntmps98
    go_wp2_with fail
    refine (isChild_rep HR.out s hc).mono ?_
    rintro e w1 ⟨rfl, rfl⟩
    go_wp2
    go_ret
    rw [E.out]
    exact ⟨rfl, rfl⟩

set_option maxHeartbeats 400000 in
theorem isStillOf_rep (R : Rep w bk bf bs bd K) {s c : Nat} (hc : c < K.nS) :
    Calls Tryz.prog 104 #[.pointer (some ⟨bk, 0, none⟩), .int .i64 s, .int .i64 c] w fun e w' => e = .returned (.bool (K.still s c)) ∧ w' = w := by
  have HR : Hid (Rep w bk bf bs bd K) := R
  have k1 := R.k1; have hn := R.hS; have c0 := R.sk hc
  clear R
  by_cases h1 : K.S c 1 = s
  · have e1 : (K.S c 1 == (s : Int)) = true := by simpa using h1
    by_cases h2 : K.S c 0 = 1
    · have e2 : (K.S c 0 == 1) = true := by simpa using h2
      have E : Hid (K.still s c = true) := by unfold Ker.still Hid; rw [e1, e2]; simp
      clear h1 h2
      go_enter Tryz.func104, Tryz.ntmps104
      go_wp2_with fail
      refine (isChild_rep HR.out s hc).mono ?_
      rintro e w1 ⟨rfl, rfl⟩
      go_wp2
      go_ret
      rw [E.out]
      exact ⟨rfl, rfl⟩
    · have e2 : (K.S c 0 == 1) = false := by simpa using h2
      have E : Hid (K.still s c = (K.S c 0 == 3)) := by unfold Ker.still Hid; rw [e1, e2]; simp
      clear h1 h2
      go_enter Tryz.func104, Tryz.ntmps104
      go_wp2_with fail
      refine (isChild_rep HR.out s hc).mono ?_
      rintro e w1 ⟨rfl, rfl⟩
      go_wp2
      go_ret
      rw [E.out]
      exact ⟨rfl, rfl⟩
  · have e1 : (K.S c 1 == (s : Int)) = false := by simpa using h1
    have E : Hid (K.still s c = false) := by unfold Ker.still Hid; rw [e1]; simp
    clear h1
    go_enter Tryz.func104, Tryz.ntmps104
    go_wp2_with fail
    refine (isChild_rep HR.out s hc).mono ?_
    rintro e w1 ⟨rfl, rfl⟩
    go_wp2
    go_ret
    rw [E.out]
    exact ⟨rfl, rfl⟩

set_option maxHeartbeats 400000 in
theorem freePage_rep (R : Rep w bk bf bs bd K) {s p g : Nat} (hs : s < K.nS) (hp : p < 4) (hg : K.page s p = g) (hl : g < K.nF) :
    Calls Tryz.prog 97 #[.pointer (some ⟨bk, 0, none⟩), .int .i64 s, .int .i64 p] w fun e w' => e = .returned (.tuple #[]) ∧ Rep w' bk bf bs bd (K.freePage s p) ∧ Keeps bf bs bd w w' := by
  have E : Hid (K.freePage s p = (K.become g 0 (-1)).setPage s p (-1) false) := by unfold Ker.freePage Hid; rw [hg, Int.toNat_natCast]
  have HR : Hid (Rep w bk bf bs bd K) := R
  have k1 := R.k1; have hn := R.hS; have c0 := R.pf hs hp; have hm := R.hF
  have hg' : K.S s (3 + p * 2) = g := hg
  rw [hg'] at c0
  clear R hg hg'
  go_enter Tryz.func97, Tryz.ntmps97
  go_wp2_with fail
  refine (become_rep HR.out 0 (-1) hl).mono ?_
  rintro e w1 ⟨rfl, R1, q1⟩
  have r0 := R1.k1
  have r1 := R1.pf hs hp
  have r2 := R1.pw hs hp
  have r3 := R1.zs
  have r4 : s < (K.become g 0 (-1)).nS := hs
  have r5 := R1.hS
  have HR1 : Hid _ := R1
  have Hq1 : Hid _ := q1
  clear R1 q1
  generalize K.become g 0 (-1) = K1 at *
  go_wp2
  go_end0
  refine ⟨rfl, ?_, ((Hq1.out.setS _ _).setS _ _)⟩
  rw [E.out]
  exact (HR1.out.setS r4 (by omega) (not_isBp p) (by omega) _).setB r4 (isBp p hp) (by omega) _

set_option maxHeartbeats 1000000 in
theorem unmap_rep (R : Rep w bk bf bs bd K) (G : Good K) {s p : Nat} (y z : Int) (hs : s < K.nS) (hp : p < 4) :
    Calls Tryz.prog 61 #[.pointer (some ⟨bk, 0, none⟩), .int .i64 s, .agg #[.int .i64 p, .int .i64 y, .int .i64 z]] w (Ends bk bf bs bd w (kUnmap K s p)) := by
  have HR : Hid (Rep w bk bf bs bd K) := R
  clear R
  by_cases h1 : K.page s p = -1
  · have e1 : (K.S s (3 + p * 2) != -1) = false := by simpa [Ker.page] using h1
    have E : Hid (kUnmap K s p = ⟨K, 0, 6⟩) := by unfold kUnmap; simp [h1, Hid]
    clear h1
    go_enter Tryz.func61, Tryz.ntmps61
    go_wp2_with fail
    refine (hasFrame_rep (HR.out.alloc _) hs hp).mono ?_
    rintro e w1 ⟨rfl, rfl⟩
    go_wp2
    go_ret2
    exact Ends.mk E (HR.out.alloc _) ((Keeps.refl w).alloc _)
  · have e1 : (K.S s (3 + p * 2) != -1) = true := by simpa [Ker.page] using h1
    obtain ⟨g, hg⟩ : ∃ g : Nat, K.page s p = g := by rcases G.page s p hs hp with h | h; exact absurd h h1; exact ⟨(K.page s p).toNat, by omega⟩
    have hl : g < K.nF := by rcases G.page s p hs hp with h | h; exact absurd h h1; omega
    have E : Hid (kUnmap K s p = ⟨K.freePage s p, 0, 0⟩) := by unfold kUnmap; simp [h1, Hid]
    have Hg : Hid (K.page s p = g) := hg
    clear h1 hg
    go_enter Tryz.func61, Tryz.ntmps61
    go_wp2_with fail
    refine (hasFrame_rep (HR.out.alloc _) hs hp).mono ?_
    rintro e w1 ⟨rfl, rfl⟩
    go_wp2_with fail
    refine (freePage_rep (HR.out.alloc _) hs hp Hg.out hl).mono ?_
    rintro e w1 ⟨rfl, R1, q1⟩
    go_wp2
    go_ret2
    exact Ends.mk E R1 (((Keeps.refl w).alloc _).trans q1)

set_option maxHeartbeats 1000000 in
theorem protect_rep (R : Rep w bk bf bs bd K) {s p : Nat} (y z : Int) (hs : s < K.nS) (hp : p < 4) :
    Calls Tryz.prog 62 #[.pointer (some ⟨bk, 0, none⟩), .int .i64 s, .agg #[.int .i64 p, .int .i64 y, .int .i64 z]] w (Ends bk bf bs bd w (kProtect K s p y)) := by
  have HR : Hid (Rep w bk bf bs bd K) := R
  have hn := R.hS
  have k1 := fun o => (HR.out.alloc o).k1
  have c0 := fun o => (HR.out.alloc o).pw hs hp
  have z0 := fun o => (HR.out.alloc o).zs
  clear R
  by_cases h1 : K.page s p = -1
  · have e1 : (K.S s (3 + p * 2) != -1) = false := by simpa [Ker.page] using h1
    have E : Hid (kProtect K s p y = ⟨K, 0, 6⟩) := by unfold kProtect; simp [h1, Hid]
    clear h1
    go_enter Tryz.func62, Tryz.ntmps62
    go_wp2_with fail
    refine (hasFrame_rep (HR.out.alloc _) hs hp).mono ?_
    rintro e w1 ⟨rfl, rfl⟩
    go_wp2
    go_ret2
    exact Ends.mk E (HR.out.alloc _) ((Keeps.refl w).alloc _)
  · have e1 : (K.S s (3 + p * 2) != -1) = true := by simpa [Ker.page] using h1
    have E : Hid (kProtect K s p y = ⟨K.setB s (4 + p * 2) (y != 0), 0, 0⟩) := by unfold kProtect; simp [h1, Hid]
    clear h1
    go_enter Tryz.func62, Tryz.ntmps62
    go_wp2_with fail
    refine (hasFrame_rep (HR.out.alloc _) hs hp).mono ?_
    rintro e w1 ⟨rfl, rfl⟩
    go_wp2
    all_goals (try go_region)
    all_goals (try go_wp2)
    all_goals
      go_ret2
      exact Ends.mk E ((HR.out.alloc _).drew.setB hs (isBp p hp) (by omega) _) ((((Keeps.refl w).alloc _).drew).setS _ _)

set_option maxHeartbeats 1000000 in
theorem start_rep (R : Rep w bk bf bs bd K) {s c : Nat} (y z : Int) (hs : s < K.nS) (hc : c < K.nS) :
    Calls Tryz.prog 66 #[.pointer (some ⟨bk, 0, none⟩), .int .i64 s, .agg #[.int .i64 c, .int .i64 y, .int .i64 z]] w (Ends bk bf bs bd w (kStart K s c)) := by
  have HR : Hid (Rep w bk bf bs bd K) := R
  have hn := R.hS
  have k1 := fun o => (HR.out.alloc o).k1
  have c0 := fun o => (HR.out.alloc o).sk hc
  have z0 := fun o => (HR.out.alloc o).zs
  clear R
  by_cases h1 : K.embryo s c = true
  · have E : Hid (kStart K s c = ⟨K.setS c 0 2, 0, 0⟩) := by unfold kStart; simp [h1, Hid]
    go_enter Tryz.func66, Tryz.ntmps66
    go_wp2_with fail
    refine (isEmbryoOf_rep (HR.out.alloc _) hc).mono ?_
    rintro e w1 ⟨rfl, rfl⟩
    go_wp2
    go_ret2
    exact Ends.mk E ((HR.out.alloc _).setS hc (by omega) not_isB0 rfl _) (((Keeps.refl w).alloc _).setS _ _)
  · have h1' : K.embryo s c = false := by simpa using h1
    have E : Hid (kStart K s c = ⟨K, 0, 7⟩) := by unfold kStart; simp [h1', Hid]
    clear h1
    go_enter Tryz.func66, Tryz.ntmps66
    go_wp2_with fail
    refine (isEmbryoOf_rep (HR.out.alloc _) hc).mono ?_
    rintro e w1 ⟨rfl, rfl⟩
    go_wp2
    go_ret2
    exact Ends.mk E (HR.out.alloc _) ((Keeps.refl w).alloc _)
end
end Go.Proofs.YtcgabodkegcpgaaGreatDoor
