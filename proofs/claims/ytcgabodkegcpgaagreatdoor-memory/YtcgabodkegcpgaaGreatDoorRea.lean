/- What the kernel's call Read does (for every kernel whose numbers are ones). -/
import Derived.Test.YtcgabodkegcpgaaGreatDoorRing
namespace Go.Proofs.YtcgabodkegcpgaaGreatDoor
open Go.RowKit
set_option linter.unusedVariables false

attribute [local go_sem ↓] Go.wp_at_zero Go.wp_at_succ
section
variable {bk bf bs bd : Nat} {K : Ker} {w : World}

set_option maxHeartbeats 1000000 in
theorem read_ok (R : Rep w bk bf bs bd K) {s x p j d g h c q r : Nat} (hs : s < K.nS) (hx : x < 4) (hp : p < 4) (hj : j < 4)
    (Hd : Hid (K.S s (11 + x * 2) = d)) (hd : d < K.nD) (he : K.B s (12 + x * 2) = false) (hw : K.B s (4 + p * 2) = true) (Hg : Hid (K.S s (3 + p * 2) = g)) (hg : g < K.nF)
    (Hr : Hid (K.D d 0 = h)) (hh : h < K.nF) (Hq : Hid (K.D d 1 = q)) (hq : q < 4) (Hc : Hid (K.D d 2 = (c + 1 : Nat))) (hc : c < 4) (Hm : Hid (r = (q + 1) % 4)) :
    Calls Tryz.prog 75 #[.pointer (some ⟨bk, 0, none⟩), .int .i64 s, .agg #[.int .i64 x, .int .i64 p, .int .i64 j]] w
      (Ends bk bf bs bd w ⟨((K.setF g (2 + j) (K.F h (2 + q))).setD d 1 r).setD d 2 c, 0, 0⟩) := by
  have HR : Hid (Rep w bk bf bs bd K) := R
  have m1 := R.hF; have m2 := R.hS; have m3 := R.hD
  have k0 := fun o o' => ((HR.out.alloc o).alloc o').k0
  have k1 := fun o => (HR.out.alloc o).k1
  have k2 := fun o o' => ((HR.out.alloc o).alloc o').k2
  have c1 : ∀ o, (w.alloc o).cell? ⟨bs, s * 20 + 11 + x * 2, none⟩ = some (.int .i64 d) := fun o => by rw [(HR.out.alloc o).ff hs hx, Hd.out]
  have c2 : ∀ o, (w.alloc o).cell? ⟨bs, s * 20 + 11 + x * 2 + 1, none⟩ = some (.bool false) := fun o => by rw [(HR.out.alloc o).fe hs hx, he]
  have c3 : ∀ o o', ((w.alloc o).alloc o').cell? ⟨bd, d * 5, none⟩ = some (.int .i64 h) := fun o o' => by rw [((HR.out.alloc o).alloc o').d0 hd, Hr.out]
  have c4 : ∀ o o', ((w.alloc o).alloc o').cell? ⟨bd, d * 5 + 1, none⟩ = some (.int .i64 q) := fun o o' => by rw [((HR.out.alloc o).alloc o').d1 hd, Hq.out]
  have c5 : ∀ o o', ((w.alloc o).alloc o').cell? ⟨bd, d * 5 + 2, none⟩ = some (.int .i64 (c + 1 : Int)) := fun o o' => by rw [((HR.out.alloc o).alloc o').d2 hd, Hc.out]; rfl
  have c7 := fun o o' => ((HR.out.alloc o).alloc o').fw hg hj
  have c8 := fun o o' => ((HR.out.alloc o).alloc o').fw (j := q) hh hq
  have z1 := fun o o' => ((HR.out.alloc o).alloc o').zf
  have z2 := fun o o' => ((HR.out.alloc o).alloc o').zd
  have n1 := R.fd
  have n2 := R.kf
  have n3 : bf ≠ bk := fun e => n2 e.symm
  have n4 : bd ≠ bf := fun e => n1 e.symm
  clear R
  have b1 : (0 : Int) ≤ (j : Int) := by omega
  have b2 : (j : Int) < 4 := by omega
  have b3 : (0 : Int) ≤ (h : Int) := by omega
  have b4 : (h : Int) < (K.nF : Int) := by omega
  have b5 : (0 : Int) ≤ (q : Int) := by omega
  have b6 : (q : Int) < 4 := by omega
  have a3 : ((q : Int) + 1) % 4 = (r : Int) := by have := Hm.out; omega
  have e1 : ((d : Int) == -1) = false := by rw [beq_eq_false_iff_ne]; omega
  have e2 : ((c : Int) + 1 == 0) = false := by rw [beq_eq_false_iff_ne]; omega
  go_enter Tryz.func75, Tryz.ntmps75
  go_wp2
  go_quiet (fail)
  go_wp2_with fail
  refine (mayWrite_rep (((HR.out.alloc _).alloc _).drewN _) hs hp).mono ?_
  rintro e w1 ⟨rfl, rfl⟩
  go_wp2
  go_quiet (fail)
  go_wp2_with fail
  go_region_held3 (fun w' => w'.cell? ⟨bk, 0, none⟩ = some (.slice (some ⟨bf, 0, none⟩) K.nF K.nF) ∧ w'.cell? ⟨bd, d * 5, none⟩ = some (.int .i64 h) ∧ w'.cell? ⟨bd, d * 5 + 1, none⟩ = some (.int .i64 q) ∧ w'.cell? ⟨bf, h * 6 + 2 + q, none⟩ = some (.int .i64 (K.F h (2 + q)))) ((repeat' apply And.intro) <;> (first | (go_keep; done) | (refine keep_same ?_; go_keep)))
    (first | (go_at_call 100; refine (words_rep (((HR.out.alloc _).alloc _).drewN _) hs hp Hg.out hg).mono ?_; rintro e w1 ⟨rfl, nq', rfl⟩))
  all_goals go_wp2
  all_goals
    go_ret2
    exact Ends.mk (show Hid _ from rfl) ((((((HR.out.alloc _).alloc _).drewN _).setF hg (by omega) (by omega) _).setD hd (by omega) (by omega) _).setD hd (by omega) (by omega) _) (((((((Keeps.refl w).alloc _).alloc _).drewN _).setF _ _).setD _ _).setD _ _)

/-- Read refuses: the file is none. -/
theorem read_e1 (R : Rep w bk bf bs bd K) {s x p j : Nat} (hs : s < K.nS) (hx : x < 4) (Hd : Hid (K.S s (11 + x * 2) = -1)) :
    Calls Tryz.prog 75 #[.pointer (some ⟨bk, 0, none⟩), .int .i64 s, .agg #[.int .i64 x, .int .i64 p, .int .i64 j]] w (Ends bk bf bs bd w ⟨K, 0, 8⟩) := by
  have HR : Hid (Rep w bk bf bs bd K) := R
  have m2 := R.hS
  have k1 := fun o => (HR.out.alloc o).k1
  have c1 : ∀ o, (w.alloc o).cell? ⟨bs, s * 20 + 11 + x * 2, none⟩ = some (.int .i64 (-1)) := fun o => by rw [(HR.out.alloc o).ff hs hx, Hd.out]
  have c2 := fun o => (HR.out.alloc o).fe hs hx
  clear R
  go_enter Tryz.func75, Tryz.ntmps75
  go_wp2
  go_quiet (fail)
  go_wp2
  go_ret2
  exact Ends.mk (show Hid _ from rfl) (((HR.out.alloc _).alloc _).drewN _) ((((Keeps.refl w).alloc _).alloc _).drewN _)
/-- Read refuses: the file writes. -/
theorem read_e2 (R : Rep w bk bf bs bd K) {s x p j d : Nat} (hs : s < K.nS) (hx : x < 4) (Hd : Hid (K.S s (11 + x * 2) = d)) (he : K.B s (12 + x * 2) = true) :
    Calls Tryz.prog 75 #[.pointer (some ⟨bk, 0, none⟩), .int .i64 s, .agg #[.int .i64 x, .int .i64 p, .int .i64 j]] w (Ends bk bf bs bd w ⟨K, 0, 8⟩) := by
  have HR : Hid (Rep w bk bf bs bd K) := R
  have m2 := R.hS
  have k1 := fun o => (HR.out.alloc o).k1
  have c1 : ∀ o, (w.alloc o).cell? ⟨bs, s * 20 + 11 + x * 2, none⟩ = some (.int .i64 d) := fun o => by rw [(HR.out.alloc o).ff hs hx, Hd.out]
  have c2 : ∀ o, (w.alloc o).cell? ⟨bs, s * 20 + 11 + x * 2 + 1, none⟩ = some (.bool true) := fun o => by rw [(HR.out.alloc o).fe hs hx, he]
  have e1 : ((d : Int) == -1) = false := by rw [beq_eq_false_iff_ne]; omega
  clear R
  go_enter Tryz.func75, Tryz.ntmps75
  go_wp2
  go_quiet (fail)
  go_wp2
  go_ret2
  exact Ends.mk (show Hid _ from rfl) (((HR.out.alloc _).alloc _).drewN _) ((((Keeps.refl w).alloc _).alloc _).drewN _)
/-- Read refuses: the page may not be written. -/
theorem read_e3 (R : Rep w bk bf bs bd K) {s x p j d : Nat} (hs : s < K.nS) (hx : x < 4) (hp : p < 4) (Hd : Hid (K.S s (11 + x * 2) = d)) (he : K.B s (12 + x * 2) = false) (hw : K.B s (4 + p * 2) = false) :
    Calls Tryz.prog 75 #[.pointer (some ⟨bk, 0, none⟩), .int .i64 s, .agg #[.int .i64 x, .int .i64 p, .int .i64 j]] w (Ends bk bf bs bd w ⟨K, 0, 6⟩) := by
  have HR : Hid (Rep w bk bf bs bd K) := R
  have m2 := R.hS
  have k1 := fun o => (HR.out.alloc o).k1
  have c1 : ∀ o, (w.alloc o).cell? ⟨bs, s * 20 + 11 + x * 2, none⟩ = some (.int .i64 d) := fun o => by rw [(HR.out.alloc o).ff hs hx, Hd.out]
  have c2 : ∀ o, (w.alloc o).cell? ⟨bs, s * 20 + 11 + x * 2 + 1, none⟩ = some (.bool false) := fun o => by rw [(HR.out.alloc o).fe hs hx, he]
  have e1 : ((d : Int) == -1) = false := by rw [beq_eq_false_iff_ne]; omega
  clear R
  go_enter Tryz.func75, Tryz.ntmps75
  go_wp2
  go_quiet (fail)
  go_wp2_with fail
  refine (mayWrite_rep (((HR.out.alloc _).alloc _).drewN _) hs hp).mono ?_
  rintro e w1 ⟨rfl, rfl⟩
  go_wp2
  go_ret2
  exact Ends.mk (show Hid _ from rfl) (((HR.out.alloc _).alloc _).drewN _) ((((Keeps.refl w).alloc _).alloc _).drewN _)
set_option maxHeartbeats 1000000 in
/-- Read refuses: the ring is empty, and nobody writes; or somebody may. -/
theorem read_e4 (R : Rep w bk bf bs bd K) {s x p j d : Nat} (er : Int) (hs : s < K.nS) (hx : x < 4) (hp : p < 4) (Hd : Hid (K.S s (11 + x * 2) = d)) (hd : d < K.nD) (he : K.B s (12 + x * 2) = false) (hw : K.B s (4 + p * 2) = true) (Hc : Hid (K.D d 2 = 0))
    (hq : (Hid (K.D d 4 = 0) ∧ Hid (er = 12)) ∨ (Hid (K.D d 4 ≠ 0) ∧ Hid (er = 11))) :
    Calls Tryz.prog 75 #[.pointer (some ⟨bk, 0, none⟩), .int .i64 s, .agg #[.int .i64 x, .int .i64 p, .int .i64 j]] w (Ends bk bf bs bd w ⟨K, 0, er⟩) := by
  have HR : Hid (Rep w bk bf bs bd K) := R
  have m2 := R.hS; have m3 := R.hD
  have k1 := fun o => (HR.out.alloc o).k1
  have k2 := fun o o' => ((HR.out.alloc o).alloc o').k2
  have c1 : ∀ o, (w.alloc o).cell? ⟨bs, s * 20 + 11 + x * 2, none⟩ = some (.int .i64 d) := fun o => by rw [(HR.out.alloc o).ff hs hx, Hd.out]
  have c2 : ∀ o, (w.alloc o).cell? ⟨bs, s * 20 + 11 + x * 2 + 1, none⟩ = some (.bool false) := fun o => by rw [(HR.out.alloc o).fe hs hx, he]
  have c5 : ∀ o o', ((w.alloc o).alloc o').cell? ⟨bd, d * 5 + 2, none⟩ = some (.int .i64 0) := fun o o' => by rw [((HR.out.alloc o).alloc o').d2 hd, Hc.out]
  have c6 := fun o o' => ((HR.out.alloc o).alloc o').d4 hd
  have e1 : ((d : Int) == -1) = false := by rw [beq_eq_false_iff_ne]; omega
  clear R
  rcases hq with ⟨h1, h2⟩ | ⟨h1, h2⟩
  · have e4 : (K.D d 4 == 0) = true := by rw [h1.out]; rfl
    go_enter Tryz.func75, Tryz.ntmps75
    go_wp2
    go_quiet (fail)
    go_wp2_with fail
    refine (mayWrite_rep (((HR.out.alloc _).alloc _).drewN _) hs hp).mono ?_
    rintro e w1 ⟨rfl, rfl⟩
    go_wp2
    go_quiet (fail)
    go_wp2
    go_ret2
    rw [h2.out]
    exact Ends.mk (show Hid _ from rfl) (((HR.out.alloc _).alloc _).drewN _) ((((Keeps.refl w).alloc _).alloc _).drewN _)
  · have e4 : (K.D d 4 == 0) = false := by rw [beq_eq_false_iff_ne]; exact h1.out
    go_enter Tryz.func75, Tryz.ntmps75
    go_wp2
    go_quiet (fail)
    go_wp2_with fail
    refine (mayWrite_rep (((HR.out.alloc _).alloc _).drewN _) hs hp).mono ?_
    rintro e w1 ⟨rfl, rfl⟩
    go_wp2
    go_quiet (fail)
    go_wp2
    go_ret2
    rw [h2.out]
    exact Ends.mk (show Hid _ from rfl) (((HR.out.alloc _).alloc _).drewN _) ((((Keeps.refl w).alloc _).alloc _).drewN _)

theorem read_rep (R : Rep w bk bf bs bd K) (G : Good K) {s x p j : Nat} (hs : s < K.nS) (hx : x < 4) (hp : p < 4) (hj : j < 4) :
    Calls Tryz.prog 75 #[.pointer (some ⟨bk, 0, none⟩), .int .i64 s, .agg #[.int .i64 x, .int .i64 p, .int .i64 j]] w (Ends bk bf bs bd w (kRead K s x p j)) := by
  unfold kRead
  rcases G.file s x hs hx with h1 | ⟨h1, h2, h3⟩
  · rw [if_pos (Or.inl h1)]; exact read_e1 R hs hx h1
  obtain ⟨d, hd⟩ : ∃ d : Nat, K.file s x = d := ⟨(K.file s x).toNat, by omega⟩
  have hdn : d < K.nD := by omega
  rw [hd] at h3 ⊢
  simp only [Int.toNat_natCast] at h3 ⊢
  by_cases h4 : K.end s x = true
  · rw [if_pos (Or.inr h4)]; exact read_e2 R hs hx hd h4
  have h4' : K.end s x = false := by simpa using h4
  rw [if_neg (by rw [h4']; simp)]
  by_cases h5 : K.wr s p = true
  · rw [if_neg (by rw [h5]; simp)]
    have h8 := G.head d hdn
    have h9 := G.cnt d hdn
    by_cases h6 : K.D d 2 = 0
    · by_cases h7 : K.D d 4 = 0
      · rw [if_pos ⟨h6, h7⟩]; exact read_e4 R 12 hs hx hp hd hdn h4' h5 h6 (Or.inl ⟨h7, rfl⟩)
      · rw [if_neg (fun h => h7 h.2), if_pos h6]; exact read_e4 R 11 hs hx hp hd hdn h4' h5 h6 (Or.inr ⟨h7, rfl⟩)
    · rw [if_neg (fun h => h6 h.1), if_neg h6]
      have h10 := G.wr s p hs hp h5
      obtain ⟨g, hg⟩ : ∃ g : Nat, K.page s p = g := by rcases G.page s p hs hp with h | h; exact absurd h h10; exact ⟨(K.page s p).toNat, by omega⟩
      have hgl : g < K.nF := by rcases G.page s p hs hp with h | h; exact absurd h h10; omega
      obtain ⟨h, hh⟩ : ∃ h : Nat, K.D d 0 = h := ⟨(K.D d 0).toNat, by omega⟩
      have hhl : h < K.nF := by rcases G.duct d hdn with k | k <;> omega
      obtain ⟨q, hq⟩ : ∃ q : Nat, K.D d 1 = q := ⟨(K.D d 1).toNat, by omega⟩
      obtain ⟨c, hc⟩ : ∃ c : Nat, K.D d 2 = (c + 1 : Nat) := ⟨(K.D d 2 - 1).toNat, by omega⟩
      have := read_ok (r := (q + 1) % 4) R hs hx hp hj hd hdn h4' h5 hg hgl hh hhl hq (by omega) hc (by omega) rfl
      rw [hg, hh, hq, hc]
      have e : ((q : Int) + 1) % 4 = ((q + 1) % 4 : Nat) := by omega
      have e' : ((c + 1 : Nat) : Int) - 1 = c := by omega
      simp only [Int.toNat_natCast, e, e']
      exact this
  · have h5' : K.wr s p = false := by simpa using h5
    rw [if_pos h5']; exact read_e3 R hs hx hp hd h4' h5'
end
end Go.Proofs.YtcgabodkegcpgaaGreatDoor
