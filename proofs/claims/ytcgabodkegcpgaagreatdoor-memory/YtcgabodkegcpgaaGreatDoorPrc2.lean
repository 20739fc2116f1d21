/- What the kernel's calls Spawn, Drop, Dup, Give do (each for every kernel whose numbers are ones). -/
import Derived.Test.YtcgabodkegcpgaaGreatDoorPrc
namespace Go.Proofs.YtcgabodkegcpgaaGreatDoor
open Go.RowKit
set_option linter.unusedVariables false

section
variable {bk bf bs bd : Nat} {K : Ker} {w : World}

set_option maxHeartbeats 1000000 in
theorem spawn_rep (R : Rep w bk bf bs bd K) {s c f : Nat} (z : Int) (hs : s < K.nS) (hc : c < K.nS) (hf : f < K.nF) :
    Calls Tryz.prog 63 #[.pointer (some ⟨bk, 0, none⟩), .int .i64 s, .agg #[.int .i64 c, .int .i64 f, .int .i64 z]] w (Ends bk bf bs bd w (kSpawn K s c f)) := by
  have HR : Hid (Rep w bk bf bs bd K) := R
  have hn := R.hS; have hm := R.hF
  have k1 := fun o => (HR.out.alloc o).k1
  have c0 := fun o => (HR.out.alloc o).sk hc
  clear R
  by_cases h1 : K.S c 0 = 0
  · have e1 : (K.S c 0 != 0) = false := by simpa using h1
    by_cases h2 : K.F f 0 = 0
    · have e2 : (K.F f 0 == 0) = true := by simpa using h2
      have E : Hid (kSpawn K s c f = ⟨(((K.become f 1 c).setS c 0 1).setS c 1 s).setS c 2 f, 0, 0⟩) := by unfold kSpawn; simp [h1, h2, Hid]
      clear h1 h2
      go_enter Tryz.func63, Tryz.ntmps63
      go_wp2
      go_quiet (fail)
      go_wp2_with fail
      refine (isFree_rep ((HR.out.alloc _).drewN _) hf).mono ?_
      rintro e w1 ⟨rfl, rfl⟩
      go_wp2_with fail
      refine (become_rep ((HR.out.alloc _).drewN _) 1 _ hf).mono ?_
      rintro e w1 ⟨rfl, R1, q1⟩
      have r0 := R1.k1
      have r1 := R1.sk hc
      have r2 := R1.sp hc
      have r3 := R1.st hc
      have r4 := R1.zs
      have r5 : c < (K.become f 1 c).nS := hc
      have n1 := R1.ks
      have n2 : bs ≠ bk := fun e => n1 e.symm
      have r6 := R1.hS
      have HR1 : Hid _ := R1
      have Hq1 : Hid _ := q1
      clear R1 q1
      generalize K.become f 1 c = K1 at *
      go_wp2
      go_ret2
      have Ra := HR1.out.setS (c := 0) (o := c * 20) r5 (by omega) not_isB0 rfl 1
      have Rb := Ra.setS (c := 1) (o := c * 20 + 1) r5 (by omega) not_isB1 rfl s
      have Rc := Rb.setS (c := 2) (o := c * 20 + 2) r5 (by omega) not_isB2 rfl f
      exact Ends.mk E Rc (((((((Keeps.refl w).alloc _).drewN _).trans Hq1.out).setS _ _).setS _ _).setS _ _)
    · have e2 : (K.F f 0 == 0) = false := by simpa using h2
      have E : Hid (kSpawn K s c f = ⟨K, 0, 5⟩) := by unfold kSpawn; simp [h1, h2, Hid]
      clear h1 h2
      go_enter Tryz.func63, Tryz.ntmps63
      go_wp2
      go_quiet (fail)
      go_wp2_with fail
      refine (isFree_rep ((HR.out.alloc _).drewN _) hf).mono ?_
      rintro e w1 ⟨rfl, rfl⟩
      go_wp2
      go_ret2
      exact Ends.mk E ((HR.out.alloc _).drewN _) (((Keeps.refl w).alloc _).drewN _)
  · have e1 : (K.S c 0 != 0) = true := by simpa using h1
    have E : Hid (kSpawn K s c f = ⟨K, 0, 7⟩) := by unfold kSpawn; simp [h1, Hid]
    clear h1
    go_enter Tryz.func63, Tryz.ntmps63
    go_wp2
    go_quiet (fail)
    go_wp2
    go_ret2
    exact Ends.mk E ((HR.out.alloc _).drewN _) (((Keeps.refl w).alloc _).drewN _)

set_option maxHeartbeats 1000000 in
theorem drop_rep (R : Rep w bk bf bs bd K) (G : Good K) {s c p : Nat} (z : Int) (hs : s < K.nS) (hc : c < K.nS) (hp : p < 4) :
    Calls Tryz.prog 68 #[.pointer (some ⟨bk, 0, none⟩), .int .i64 s, .agg #[.int .i64 c, .int .i64 p, .int .i64 z]] w (Ends bk bf bs bd w (kDrop K s c p)) := by
  have HR : Hid (Rep w bk bf bs bd K) := R
  clear R
  by_cases h0 : K.still s c = true
  · by_cases h1 : K.page c p = -1
    · have e1 : (K.S c (3 + p * 2) != -1) = false := by simpa [Ker.page] using h1
      have E : Hid (kDrop K s c p = ⟨K, 0, 6⟩) := by unfold kDrop; simp [h0, h1, Hid]
      clear h1
      go_enter Tryz.func68, Tryz.ntmps68
      go_wp2
      go_quiet (fail)
      go_wp2_with fail
      refine (isStillOf_rep ((HR.out.alloc _).drewN _) hc).mono ?_
      rintro e w1 ⟨rfl, rfl⟩
      go_wp2_with fail
      refine (hasFrame_rep ((HR.out.alloc _).drewN _) hc hp).mono ?_
      rintro e w1 ⟨rfl, rfl⟩
      go_wp2
      go_ret2
      exact Ends.mk E ((HR.out.alloc _).drewN _) (((Keeps.refl w).alloc _).drewN _)
    · have e1 : (K.S c (3 + p * 2) != -1) = true := by simpa [Ker.page] using h1
      obtain ⟨g, hg⟩ : ∃ g : Nat, K.page c p = g := by rcases G.page c p hc hp with h | h; exact absurd h h1; exact ⟨(K.page c p).toNat, by omega⟩
      have hl : g < K.nF := by rcases G.page c p hc hp with h | h; exact absurd h h1; omega
      have E : Hid (kDrop K s c p = ⟨K.freePage c p, 0, 0⟩) := by unfold kDrop; simp [h0, h1, Hid]
      have Hg : Hid (K.page c p = g) := hg
      clear h1 hg
      go_enter Tryz.func68, Tryz.ntmps68
      go_wp2
      go_quiet (fail)
      go_wp2_with fail
      refine (isStillOf_rep ((HR.out.alloc _).drewN _) hc).mono ?_
      rintro e w1 ⟨rfl, rfl⟩
      go_wp2_with fail
      refine (hasFrame_rep ((HR.out.alloc _).drewN _) hc hp).mono ?_
      rintro e w1 ⟨rfl, rfl⟩
      go_wp2_with fail
      refine (freePage_rep ((HR.out.alloc _).drewN _) hc hp Hg.out hl).mono ?_
      rintro e w1 ⟨rfl, R1, q1⟩
      go_wp2
      go_ret2
      exact Ends.mk E R1 ((((Keeps.refl w).alloc _).drewN _).trans q1)
  · have h0' : K.still s c = false := by simpa using h0
    have E : Hid (kDrop K s c p = ⟨K, 0, 7⟩) := by unfold kDrop; simp [h0', Hid]
    clear h0
    go_enter Tryz.func68, Tryz.ntmps68
    go_wp2
    go_quiet (fail)
    go_wp2_with fail
    refine (isStillOf_rep ((HR.out.alloc _).drewN _) hc).mono ?_
    rintro e w1 ⟨rfl, rfl⟩
    go_wp2
    go_ret2
    exact Ends.mk E ((HR.out.alloc _).drewN _) (((Keeps.refl w).alloc _).drewN _)

set_option maxHeartbeats 1000000 in
theorem dup_rep (R : Rep w bk bf bs bd K) (G : Good K) {s x t : Nat} (z : Int) (hs : s < K.nS) (hx : x < 4) (ht : t < 4) :
    Calls Tryz.prog 72 #[.pointer (some ⟨bk, 0, none⟩), .int .i64 s, .agg #[.int .i64 x, .int .i64 t, .int .i64 z]] w (Ends bk bf bs bd w (kDup K s x t)) := by
  have HR : Hid (Rep w bk bf bs bd K) := R
  have hn := R.hS
  have k1 := fun o => (HR.out.alloc o).k1
  clear R
  by_cases h1 : K.file s x = -1
  · have e1 : (K.S s (11 + x * 2) != -1) = false := by simpa [Ker.file] using h1
    have E : Hid (kDup K s x t = ⟨K, 0, 8⟩) := by unfold kDup; simp [h1, Hid]
    clear h1
    go_enter Tryz.func72, Tryz.ntmps72
    go_wp2
    go_quiet (fail)
    go_wp2_with fail
    refine (isFile_rep ((HR.out.alloc _).drewN _) hs hx).mono ?_
    rintro e w1 ⟨rfl, rfl⟩
    go_wp2
    go_ret2
    exact Ends.mk E ((HR.out.alloc _).drewN _) (((Keeps.refl w).alloc _).drewN _)
  · have e1 : (K.S s (11 + x * 2) != -1) = true := by simpa [Ker.file] using h1
    by_cases h2 : K.file s t = -1
    · have e2 : (K.S s (11 + t * 2) != -1) = false := by simpa [Ker.file] using h2
      obtain ⟨d, hd⟩ : ∃ d : Nat, K.file s x = d := by rcases G.file s x hs hx with h | h; exact absurd h h1; exact ⟨(K.file s x).toNat, by omega⟩
      have hdn : d < K.nD := by rcases G.file s x hs hx with h | h; exact absurd h h1; omega
      have E : Hid (kDup K s x t = ⟨K.openFile s t d (K.end s x), 0, 0⟩) := by unfold kDup; simp [h2, hd, Hid]
      have c1 : ∀ o, (w.alloc o).cell? ⟨bs, s * 20 + 11 + x * 2, none⟩ = some (.int .i64 d) := fun o => by rw [(HR.out.alloc o).ff hs hx]; exact congrArg (fun q => some (Value.int .i64 q)) hd
      have c2 : ∀ o, (w.alloc o).cell? ⟨bs, s * 20 + 11 + x * 2 + 1, none⟩ = some (.bool (K.end s x)) := fun o => (HR.out.alloc o).fe hs hx
      have h3 := G.rd d hdn
      have h4 := G.wt d hdn
      have H3 : Hid _ := h3
      have H4 : Hid _ := h4
      clear h1 h2 hd h3 h4
      generalize K.end s x = b at *
      go_enter Tryz.func72, Tryz.ntmps72
      go_wp2
      go_quiet (fail)
      go_wp2_with fail
      refine (isFile_rep ((HR.out.alloc _).drewN _) hs hx).mono ?_
      rintro e w1 ⟨rfl, rfl⟩
      go_wp2_with fail
      refine (isFile_rep ((HR.out.alloc _).drewN _) hs ht).mono ?_
      rintro e w1 ⟨rfl, rfl⟩
      go_wp2_with fail
      refine (openFile_rep ((HR.out.alloc _).drewN _) b hs ht hdn H3.out H4.out).mono ?_
      rintro e w1 ⟨rfl, R1, q1⟩
      go_wp2
      go_ret2
      exact Ends.mk E R1 ((((Keeps.refl w).alloc _).drewN _).trans q1)
    · have e2 : (K.S s (11 + t * 2) != -1) = true := by simpa [Ker.file] using h2
      have E : Hid (kDup K s x t = ⟨K, 0, 8⟩) := by unfold kDup; simp [h2, Hid]
      clear h1 h2
      go_enter Tryz.func72, Tryz.ntmps72
      go_wp2
      go_quiet (fail)
      go_wp2_with fail
      refine (isFile_rep ((HR.out.alloc _).drewN _) hs hx).mono ?_
      rintro e w1 ⟨rfl, rfl⟩
      go_wp2_with fail
      refine (isFile_rep ((HR.out.alloc _).drewN _) hs ht).mono ?_
      rintro e w1 ⟨rfl, rfl⟩
      go_wp2
      go_ret2
      exact Ends.mk E ((HR.out.alloc _).drewN _) (((Keeps.refl w).alloc _).drewN _)

set_option maxHeartbeats 1000000 in
theorem give_rep (R : Rep w bk bf bs bd K) (G : Good K) {s c x t : Nat} (hs : s < K.nS) (hc : c < K.nS) (hx : x < 4) (ht : t < 4) :
    Calls Tryz.prog 65 #[.pointer (some ⟨bk, 0, none⟩), .int .i64 s, .agg #[.int .i64 c, .int .i64 x, .int .i64 t]] w (Ends bk bf bs bd w (kGive K s c x t)) := by
  have HR : Hid (Rep w bk bf bs bd K) := R
  have hn := R.hS
  have k1 := fun o => (HR.out.alloc o).k1
  clear R
  by_cases h0 : K.embryo s c = true
  · by_cases h1 : K.file s x = -1
    · have e1 : (K.S s (11 + x * 2) != -1) = false := by simpa [Ker.file] using h1
      have E : Hid (kGive K s c x t = ⟨K, 0, 8⟩) := by unfold kGive; simp [h0, h1, Hid]
      clear h1
      go_enter Tryz.func65, Tryz.ntmps65
      go_wp2
      go_quiet (fail)
      go_wp2_with fail
      refine (isEmbryoOf_rep ((HR.out.alloc _).drewN _) hc).mono ?_
      rintro e w1 ⟨rfl, rfl⟩
      go_wp2_with fail
      refine (isFile_rep ((HR.out.alloc _).drewN _) hs hx).mono ?_
      rintro e w1 ⟨rfl, rfl⟩
      go_wp2
      go_ret2
      exact Ends.mk E ((HR.out.alloc _).drewN _) (((Keeps.refl w).alloc _).drewN _)
    · have e1 : (K.S s (11 + x * 2) != -1) = true := by simpa [Ker.file] using h1
      by_cases h2 : K.file c t = -1
      · have e2 : (K.S c (11 + t * 2) != -1) = false := by simpa [Ker.file] using h2
        obtain ⟨d, hd⟩ : ∃ d : Nat, K.file s x = d := by rcases G.file s x hs hx with h | h; exact absurd h h1; exact ⟨(K.file s x).toNat, by omega⟩
        have hdn : d < K.nD := by rcases G.file s x hs hx with h | h; exact absurd h h1; omega
        have E : Hid (kGive K s c x t = ⟨K.openFile c t d (K.end s x), 0, 0⟩) := by unfold kGive; simp [h0, h2, hd, Hid]
        have c1 : ∀ o, (w.alloc o).cell? ⟨bs, s * 20 + 11 + x * 2, none⟩ = some (.int .i64 d) := fun o => by rw [(HR.out.alloc o).ff hs hx]; exact congrArg (fun q => some (Value.int .i64 q)) hd
        have c2 : ∀ o, (w.alloc o).cell? ⟨bs, s * 20 + 11 + x * 2 + 1, none⟩ = some (.bool (K.end s x)) := fun o => (HR.out.alloc o).fe hs hx
        have h3 := G.rd d hdn
        have h4 := G.wt d hdn
        have H3 : Hid _ := h3
        have H4 : Hid _ := h4
        clear h1 h2 hd h3 h4
        generalize K.end s x = b at *
        go_enter Tryz.func65, Tryz.ntmps65
        go_wp2
        go_quiet (fail)
        go_wp2_with fail
        refine (isEmbryoOf_rep ((HR.out.alloc _).drewN _) hc).mono ?_
        rintro e w1 ⟨rfl, rfl⟩
        go_wp2_with fail
        refine (isFile_rep ((HR.out.alloc _).drewN _) hs hx).mono ?_
        rintro e w1 ⟨rfl, rfl⟩
        go_wp2_with fail
        refine (isFile_rep ((HR.out.alloc _).drewN _) hc ht).mono ?_
        rintro e w1 ⟨rfl, rfl⟩
        go_wp2_with fail
        refine (openFile_rep ((HR.out.alloc _).drewN _) b hc ht hdn H3.out H4.out).mono ?_
        rintro e w1 ⟨rfl, R1, q1⟩
        go_wp2
        go_ret2
        exact Ends.mk E R1 ((((Keeps.refl w).alloc _).drewN _).trans q1)
      · have e2 : (K.S c (11 + t * 2) != -1) = true := by simpa [Ker.file] using h2
        have E : Hid (kGive K s c x t = ⟨K, 0, 8⟩) := by unfold kGive; simp [h0, h2, Hid]
        clear h1 h2
        go_enter Tryz.func65, Tryz.ntmps65
        go_wp2
        go_quiet (fail)
        go_wp2_with fail
        refine (isEmbryoOf_rep ((HR.out.alloc _).drewN _) hc).mono ?_
        rintro e w1 ⟨rfl, rfl⟩
        go_wp2_with fail
        refine (isFile_rep ((HR.out.alloc _).drewN _) hs hx).mono ?_
        rintro e w1 ⟨rfl, rfl⟩
        go_wp2_with fail
        refine (isFile_rep ((HR.out.alloc _).drewN _) hc ht).mono ?_
        rintro e w1 ⟨rfl, rfl⟩
        go_wp2
        go_ret2
        exact Ends.mk E ((HR.out.alloc _).drewN _) (((Keeps.refl w).alloc _).drewN _)
  · have h0' : K.embryo s c = false := by simpa using h0
    have E : Hid (kGive K s c x t = ⟨K, 0, 7⟩) := by unfold kGive; simp [h0', Hid]
    clear h0
    go_enter Tryz.func65, Tryz.ntmps65
    go_wp2
    go_quiet (fail)
    go_wp2_with fail
    refine (isEmbryoOf_rep ((HR.out.alloc _).drewN _) hc).mono ?_
    rintro e w1 ⟨rfl, rfl⟩
    go_wp2
    go_ret2
    exact Ends.mk E ((HR.out.alloc _).drewN _) (((Keeps.refl w).alloc _).drewN _)
end
end Go.Proofs.YtcgabodkegcpgaaGreatDoor
