/- What the kernel's calls Close and Shut do (each for every kernel whose numbers are ones). -/
import Derived.Test.YtcgabodkegcpgaaGreatDoorCls
namespace Go.Proofs.YtcgabodkegcpgaaGreatDoor
open Go.RowKit
set_option linter.unusedVariables false

section
variable {bk bf bs bd : Nat} {K : Ker} {w : World}

set_option maxHeartbeats 1000000 in
theorem close_rep (R : Rep w bk bf bs bd K) (G : Good K) {s x : Nat} (y z : Int) (hs : s < K.nS) (hx : x < 4) :
    Calls Tryz.prog 73 #[.pointer (some ⟨bk, 0, none⟩), .int .i64 s, .agg #[.int .i64 x, .int .i64 y, .int .i64 z]] w (Ends bk bf bs bd w (kClose K s x)) := by
  have HR : Hid (Rep w bk bf bs bd K) := R
  clear R
  by_cases h1 : K.file s x = -1
  · have e1 : (K.S s (11 + x * 2) != -1) = false := by simpa [Ker.file] using h1
    have E : Hid (kClose K s x = ⟨K, 0, 8⟩) := by unfold kClose; simp [h1, Hid]
    clear h1
    go_enter Tryz.func73, Tryz.ntmps73
    go_wp2_with fail
    refine (isFile_rep (HR.out.alloc _) hs hx).mono ?_
    rintro e w1 ⟨rfl, rfl⟩
    go_wp2
    go_ret2
    exact Ends.mk E (HR.out.alloc _) ((Keeps.refl w).alloc _)
  · have e1 : (K.S s (11 + x * 2) != -1) = true := by simpa [Ker.file] using h1
    have hF := G.file s x hs hx
    obtain ⟨d, hd⟩ : ∃ d : Nat, K.file s x = d := ⟨(K.file s x).toNat, by omega⟩
    have hdn : d < K.nD := by omega
    rw [hd, Int.toNat_natCast] at hF
    obtain ⟨h, hh⟩ : ∃ h : Nat, K.D d 0 = h := ⟨(K.D d 0).toNat, by omega⟩
    have hhl : h < K.nF := by rcases G.duct d hdn with k | k <;> omega
    have E : Hid (kClose K s x = ⟨K.closeFile s x, 0, 0⟩) := by unfold kClose; simp [h1, Hid]
    have HC : Hid (K.file s x = d ∧ K.D d 0 = h) := ⟨hd, hh⟩
    have H3 : Hid _ := G.rd d hdn
    have H4 : Hid _ := G.wt d hdn
    clear h1 hF hd hh
    go_enter Tryz.func73, Tryz.ntmps73
    go_wp2_with fail
    refine (isFile_rep (HR.out.alloc _) hs hx).mono ?_
    rintro e w1 ⟨rfl, rfl⟩
    go_wp2_with fail
    refine (closeFile_rep (HR.out.alloc _) hs hx HC.out.1 hdn H3.out H4.out HC.out.2 hhl).mono ?_
    rintro e w1 ⟨rfl, R1, q1⟩
    go_wp2
    go_ret2
    exact Ends.mk E R1 (((Keeps.refl w).alloc _).trans q1)

set_option maxHeartbeats 1000000 in
theorem shut_rep (R : Rep w bk bf bs bd K) (G : Good K) {s c x : Nat} (z : Int) (hs : s < K.nS) (hc : c < K.nS) (hx : x < 4) :
    Calls Tryz.prog 69 #[.pointer (some ⟨bk, 0, none⟩), .int .i64 s, .agg #[.int .i64 c, .int .i64 x, .int .i64 z]] w (Ends bk bf bs bd w (kShut K s c x)) := by
  have HR : Hid (Rep w bk bf bs bd K) := R
  clear R
  by_cases h0 : K.still s c = true
  · by_cases h1 : K.file c x = -1
    · have e1 : (K.S c (11 + x * 2) != -1) = false := by simpa [Ker.file] using h1
      have E : Hid (kShut K s c x = ⟨K, 0, 8⟩) := by unfold kShut; simp [h0, h1, Hid]
      clear h1
      go_enter Tryz.func69, Tryz.ntmps69
      go_wp2
      go_quiet (fail)
      go_wp2_with fail
      refine (isStillOf_rep ((HR.out.alloc _).drewN _) hc).mono ?_
      rintro e w1 ⟨rfl, rfl⟩
      go_wp2_with fail
      refine (isFile_rep ((HR.out.alloc _).drewN _) hc hx).mono ?_
      rintro e w1 ⟨rfl, rfl⟩
      go_wp2
      go_ret2
      exact Ends.mk E ((HR.out.alloc _).drewN _) (((Keeps.refl w).alloc _).drewN _)
    · have e1 : (K.S c (11 + x * 2) != -1) = true := by simpa [Ker.file] using h1
      have hF := G.file c x hc hx
      obtain ⟨d, hd⟩ : ∃ d : Nat, K.file c x = d := ⟨(K.file c x).toNat, by omega⟩
      have hdn : d < K.nD := by omega
      rw [hd, Int.toNat_natCast] at hF
      obtain ⟨h, hh⟩ : ∃ h : Nat, K.D d 0 = h := ⟨(K.D d 0).toNat, by omega⟩
      have hhl : h < K.nF := by rcases G.duct d hdn with k | k <;> omega
      have E : Hid (kShut K s c x = ⟨K.closeFile c x, 0, 0⟩) := by unfold kShut; simp [h0, h1, Hid]
      have HC : Hid (K.file c x = d ∧ K.D d 0 = h) := ⟨hd, hh⟩
      have H3 : Hid _ := G.rd d hdn
      have H4 : Hid _ := G.wt d hdn
      clear h1 hF hd hh
      go_enter Tryz.func69, Tryz.ntmps69
      go_wp2
      go_quiet (fail)
      go_wp2_with fail
      refine (isStillOf_rep ((HR.out.alloc _).drewN _) hc).mono ?_
      rintro e w1 ⟨rfl, rfl⟩
      go_wp2_with fail
      refine (isFile_rep ((HR.out.alloc _).drewN _) hc hx).mono ?_
      rintro e w1 ⟨rfl, rfl⟩
      go_wp2_with fail
      refine (closeFile_rep ((HR.out.alloc _).drewN _) hc hx HC.out.1 hdn H3.out H4.out HC.out.2 hhl).mono ?_
      rintro e w1 ⟨rfl, R1, q1⟩
      go_wp2
      go_ret2
      exact Ends.mk E R1 ((((Keeps.refl w).alloc _).drewN _).trans q1)
  · have h0' : K.still s c = false := by simpa using h0
    have E : Hid (kShut K s c x = ⟨K, 0, 7⟩) := by unfold kShut; simp [h0', Hid]
    clear h0
    go_enter Tryz.func69, Tryz.ntmps69
    go_wp2
    go_quiet (fail)
    go_wp2_with fail
    refine (isStillOf_rep ((HR.out.alloc _).drewN _) hc).mono ?_
    rintro e w1 ⟨rfl, rfl⟩
    go_wp2
    go_ret2
    exact Ends.mk E ((HR.out.alloc _).drewN _) (((Keeps.refl w).alloc _).drewN _)
end
end Go.Proofs.YtcgabodkegcpgaaGreatDoor
