/- What the kernel's calls of memory do: Map, Load, Store (each for every kernel whose numbers are ones). -/
import Derived.Test.YtcgabodkegcpgaaGreatDoorKer
import Derived.Deep.RegionWith
namespace Go.Proofs.YtcgabodkegcpgaaGreatDoor
open Go.RowKit
set_option linter.unusedVariables false

section
variable {bk bf bs bd : Nat} {K : Ker} {w : World}

/-- What a call's walk ends in: its outcome, the kernel behind it in memory, all else as it was. -/
def Ends (bk bf bs bd : Nat) (w : World) (r : Out) (e : Ending) (w' : World) : Prop :=
  e = .returned (.tuple #[.int .i64 r.n, .int .i64 r.e]) ∧ Rep w' bk bf bs bd r.K ∧ Keeps bf bs bd w w'
theorem Ends.mk {r : Out} {K' : Ker} {n e : Int} {w' : World} (E : Hid (r = ⟨K', n, e⟩)) (R : Rep w' bk bf bs bd K') (k : Keeps bf bs bd w w') :
    Ends bk bf bs bd w r (.returned (.tuple #[.int .i64 n, .int .i64 e])) w' := by
  unfold Ends; rw [E.out]; exact ⟨rfl, R, k⟩

set_option maxHeartbeats 1000000 in
theorem map_rep (R : Rep w bk bf bs bd K) {s p f : Nat} (z : Int) (hs : s < K.nS) (hp : p < 4) (hf : f < K.nF) :
    Calls Tryz.prog 60 #[.pointer (some ⟨bk, 0, none⟩), .int .i64 s, .agg #[.int .i64 p, .int .i64 f, .int .i64 z]] w (Ends bk bf bs bd w (kMap K s p f)) := by
  have HR : Hid (Rep w bk bf bs bd K) := R
  have hn := R.hF; have hm := R.hS
  clear R
  by_cases h1 : K.page s p = -1
  · have e1 : (K.S s (3 + p * 2) != -1) = false := by simpa [Ker.page] using h1
    by_cases h2 : K.F f 0 = 0
    · have e2 : (K.F f 0 == 0) = true := by simpa using h2
      have E : Hid (kMap K s p f = ⟨(K.become f 2 s).setPage s p f true, 0, 0⟩) := by unfold kMap; simp [h1, h2, Hid]
      clear h1 h2
      go_enter Tryz.func60, Tryz.ntmps60
      go_wp2
      go_quiet (fail)
      go_wp2_with fail
      refine (hasFrame_rep ((HR.out.alloc _).drewN _) hs hp).mono ?_
      rintro e w1 ⟨rfl, rfl⟩
      go_wp2_with fail
      refine (isFree_rep ((HR.out.alloc _).drewN _) hf).mono ?_
      rintro e w1 ⟨rfl, rfl⟩
      go_wp2_with fail
      refine (become_rep ((HR.out.alloc _).drewN _) _ _ hf).mono ?_
      rintro e w1 ⟨rfl, R1, k1⟩
      have q0 := R1.k1
      have q1 := R1.pf hs hp
      have q2 := R1.pw hs hp
      have q3 := R1.zs
      have q4 : s < (K.become f 2 ↑s).nS := hs
      have q5 := R1.hS
      go_wp2
      go_ret2
      exact Ends.mk E ((R1.setS hs (by omega) (not_isBp p) (by omega) _).setB hs (isBp p hp) (by omega) _) ((((((Keeps.refl w).alloc _).drewN _).trans k1).setS _ _).setS _ _)
    · have e2 : (K.F f 0 == 0) = false := by simpa using h2
      have E : Hid (kMap K s p f = ⟨K, 0, 5⟩) := by unfold kMap; simp [h1, h2, Hid]
      clear h1 h2
      go_enter Tryz.func60, Tryz.ntmps60
      go_wp2
      go_quiet (fail)
      go_wp2_with fail
      refine (hasFrame_rep ((HR.out.alloc _).drewN _) hs hp).mono ?_
      rintro e w1 ⟨rfl, rfl⟩
      go_wp2_with fail
      refine (isFree_rep ((HR.out.alloc _).drewN _) hf).mono ?_
      rintro e w1 ⟨rfl, rfl⟩
      go_wp2
      go_ret2
      exact Ends.mk E ((HR.out.alloc _).drewN _) (((Keeps.refl w).alloc _).drewN _)
  · have e1 : (K.S s (3 + p * 2) != -1) = true := by simpa [Ker.page] using h1
    have E : Hid (kMap K s p f = ⟨K, 0, 6⟩) := by unfold kMap; simp [h1, Hid]
    clear h1
    go_enter Tryz.func60, Tryz.ntmps60
    go_wp2
    go_quiet (fail)
    go_wp2_with fail
    refine (hasFrame_rep ((HR.out.alloc _).drewN _) hs hp).mono ?_
    rintro e w1 ⟨rfl, rfl⟩
    go_wp2
    go_ret2
    exact Ends.mk E ((HR.out.alloc _).drewN _) (((Keeps.refl w).alloc _).drewN _)

set_option maxHeartbeats 1000000 in
theorem load_rep (R : Rep w bk bf bs bd K) (G : Good K) {s p j : Nat} (z : Int) (hs : s < K.nS) (hp : p < 4) (hj : j < 4) :
    Calls Tryz.prog 76 #[.pointer (some ⟨bk, 0, none⟩), .int .i64 s, .agg #[.int .i64 p, .int .i64 j, .int .i64 z]] w (Ends bk bf bs bd w (kLoad K s p j)) := by
  have HR : Hid (Rep w bk bf bs bd K) := R
  have hn := R.hF; have hm := R.hS
  clear R
  by_cases h1 : K.page s p = -1
  · have e1 : (K.S s (3 + p * 2) != -1) = false := by simpa [Ker.page] using h1
    have E : Hid (kLoad K s p j = ⟨K, 0, 6⟩) := by unfold kLoad; simp [h1, Hid]
    clear h1
    go_enter Tryz.func76, Tryz.ntmps76
    go_wp2
    go_quiet (fail)
    go_wp2_with fail
    refine (hasFrame_rep ((HR.out.alloc _).drewN _) hs hp).mono ?_
    rintro e w1 ⟨rfl, rfl⟩
    go_wp2
    go_ret2
    exact Ends.mk E ((HR.out.alloc _).drewN _) (((Keeps.refl w).alloc _).drewN _)
  · have e1 : (K.S s (3 + p * 2) != -1) = true := by simpa [Ker.page] using h1
    obtain ⟨g, hg⟩ : ∃ g : Nat, K.page s p = g := by rcases G.page s p hs hp with h | h; exact absurd h h1; exact ⟨(K.page s p).toNat, by omega⟩
    have hl : g < K.nF := by rcases G.page s p hs hp with h | h; exact absurd h h1; omega
    have E : Hid (kLoad K s p j = ⟨K, K.F g (2 + j), 0⟩) := by unfold kLoad; rw [if_neg h1, hg]; simp [Hid]
    have Hg : Hid (K.S s (3 + p * 2) = g) := hg
    clear h1 hg
    have c1 := fun o => (HR.out.alloc o).fw hl hj
    go_enter Tryz.func76, Tryz.ntmps76
    go_wp2
    go_quiet (fail)
    go_wp2_with fail
    refine (hasFrame_rep ((HR.out.alloc _).drewN _) hs hp).mono ?_
    rintro e w1 ⟨rfl, rfl⟩
    go_wp2_with fail
    refine (words_rep ((HR.out.alloc _).drewN _) hs hp Hg.out hl).mono ?_
    rintro e w1 ⟨rfl, nq', rfl⟩
    go_wp2
    go_ret2
    exact Ends.mk E ((HR.out.alloc _).drewN _) (((Keeps.refl w).alloc _).drewN _)

set_option maxHeartbeats 1000000 in
theorem store_rep (R : Rep w bk bf bs bd K) (G : Good K) {s p j : Nat} (z : Int) (hs : s < K.nS) (hp : p < 4) (hj : j < 4) :
    Calls Tryz.prog 77 #[.pointer (some ⟨bk, 0, none⟩), .int .i64 s, .agg #[.int .i64 p, .int .i64 j, .int .i64 z]] w (Ends bk bf bs bd w (kStore K s p j z)) := by
  have HR : Hid (Rep w bk bf bs bd K) := R
  have hn := R.hF; have hm := R.hS
  clear R
  by_cases h1 : K.wr s p = true
  · have e1 : K.B s (4 + p * 2) = true := h1
    have h2 := G.wr s p hs hp h1
    obtain ⟨g, hg⟩ : ∃ g : Nat, K.page s p = g := by rcases G.page s p hs hp with h | h; exact absurd h h2; exact ⟨(K.page s p).toNat, by omega⟩
    have hl : g < K.nF := by rcases G.page s p hs hp with h | h; exact absurd h h2; omega
    have E : Hid (kStore K s p j z = ⟨K.setF g (2 + j) z, 0, 0⟩) := by unfold kStore; rw [if_neg (by simp [h1]), hg]; simp [Hid]
    have Hg : Hid (K.S s (3 + p * 2) = g) := hg
    clear h1 hg h2
    have c1 := fun o => (HR.out.alloc o).fw hl hj
    have c2 := fun o => (HR.out.alloc o).zf
    go_enter Tryz.func77, Tryz.ntmps77
    go_wp2
    go_quiet (fail)
    go_wp2_with fail
    refine (mayWrite_rep ((HR.out.alloc _).drewN _) hs hp).mono ?_
    rintro e w1 ⟨rfl, rfl⟩
    go_wp2_with fail
    go_region_with (go_at_call 100; refine (words_rep ((HR.out.alloc _).drewN _) hs hp Hg.out hl).mono ?_; rintro e w1 ⟨rfl, nq', rfl⟩)
    all_goals
      go_wp2
      go_ret2
      exact Ends.mk E (((HR.out.alloc _).drewN _).setF hl (by omega) (by omega) _) ((((Keeps.refl w).alloc _).drewN _).setF _ _)
  · have e1 : K.B s (4 + p * 2) = false := by simpa [Ker.wr] using h1
    have E : Hid (kStore K s p j z = ⟨K, 0, 6⟩) := by unfold kStore; simp [h1, Hid]
    clear h1
    go_enter Tryz.func77, Tryz.ntmps77
    go_wp2
    go_quiet (fail)
    go_wp2_with fail
    refine (mayWrite_rep ((HR.out.alloc _).drewN _) hs hp).mono ?_
    rintro e w1 ⟨rfl, rfl⟩
    go_wp2
    go_ret2
    exact Ends.mk E ((HR.out.alloc _).drewN _) (((Keeps.refl w).alloc _).drewN _)
end
end Go.Proofs.YtcgabodkegcpgaaGreatDoor
