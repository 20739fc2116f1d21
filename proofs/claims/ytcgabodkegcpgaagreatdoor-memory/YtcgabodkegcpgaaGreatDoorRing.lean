/- What the kernel's calls Write and Read do (for every kernel whose numbers are ones). -/
import Derived.Test.YtcgabodkegcpgaaGreatDoorPip
import Derived.Deep.RegionHeld3
import Derived.Deep.DrawnRows
namespace Go.Proofs.YtcgabodkegcpgaaGreatDoor
open Go.RowKit
set_option linter.unusedVariables false

attribute [local go_sem ↓] Go.wp_at_zero Go.wp_at_succ
section
variable {bk bf bs bd : Nat} {K : Ker} {w : World}

theorem keep_same {W : World} {a b : Addr} {v : Value} (h : W.cell? a = some v) : (W.setCell b v).cell? a = some v := by
  by_cases e : a = b
  · subst e; exact World.cell?_setCell_same W _ v h
  · rw [World.cell?_setCell_other W b a v (fun h => e h.symm)]; exact h

set_option maxHeartbeats 1000000 in
theorem write_ok (R : Rep w bk bf bs bd K) {s x p j d g h c q r : Nat} (hs : s < K.nS) (hx : x < 4) (hp : p < 4) (hj : j < 4)
    (Hd : Hid (K.S s (11 + x * 2) = d)) (hd : d < K.nD) (he : K.B s (12 + x * 2) = true) (Hg : Hid (K.S s (3 + p * 2) = g)) (hg : g < K.nF)
    (Hr : Hid (K.D d 0 = h)) (hh : h < K.nF) (Hq : Hid (K.D d 1 = q)) (hq : q < 4) (Hc : Hid (K.D d 2 = c)) (hc : c < 4) (H3 : (K.D d 3 == 0) = false) (Hm : Hid (r = (q + c) % 4)) :
    Calls Tryz.prog 74 #[.pointer (some ⟨bk, 0, none⟩), .int .i64 s, .agg #[.int .i64 x, .int .i64 p, .int .i64 j]] w
      (Ends bk bf bs bd w ⟨(K.setF h (2 + r) (K.F g (2 + j))).setD d 2 (c + 1), 0, 0⟩) := by
  have HR : Hid (Rep w bk bf bs bd K) := R
  have m1 := R.hF; have m2 := R.hS; have m3 := R.hD
  have k0 := fun o o' => ((HR.out.alloc o).alloc o').k0
  have k1 := fun o => (HR.out.alloc o).k1
  have k2 := fun o o' => ((HR.out.alloc o).alloc o').k2
  have c1 : ∀ o, (w.alloc o).cell? ⟨bs, s * 20 + 11 + x * 2, none⟩ = some (.int .i64 d) := fun o => by rw [(HR.out.alloc o).ff hs hx, Hd.out]
  have c2 : ∀ o, (w.alloc o).cell? ⟨bs, s * 20 + 11 + x * 2 + 1, none⟩ = some (.bool true) := fun o => by rw [(HR.out.alloc o).fe hs hx, he]
  have c3 : ∀ o o', ((w.alloc o).alloc o').cell? ⟨bd, d * 5, none⟩ = some (.int .i64 h) := fun o o' => by rw [((HR.out.alloc o).alloc o').d0 hd, Hr.out]
  have c4 : ∀ o o', ((w.alloc o).alloc o').cell? ⟨bd, d * 5 + 1, none⟩ = some (.int .i64 q) := fun o o' => by rw [((HR.out.alloc o).alloc o').d1 hd, Hq.out]
  have c5 : ∀ o o', ((w.alloc o).alloc o').cell? ⟨bd, d * 5 + 2, none⟩ = some (.int .i64 c) := fun o o' => by rw [((HR.out.alloc o).alloc o').d2 hd, Hc.out]
  have c6 := fun o o' => ((HR.out.alloc o).alloc o').d3 hd
  have c7 := fun o o' => ((HR.out.alloc o).alloc o').fw hg hj
  have c8 := fun o o' => ((HR.out.alloc o).alloc o').fw (j := r) hh (by have := Hm.out; omega)
  have z1 := fun o o' => ((HR.out.alloc o).alloc o').zf
  have z2 := fun o o' => ((HR.out.alloc o).alloc o').zd
  have n1 := R.fd
  have n2 := R.kf
  have n3 : bf ≠ bk := fun e => n2 e.symm
  have n4 : bd ≠ bf := fun e => n1 e.symm
  clear R
  have b1 : (0 : Int) ≤ (j : Int) := by omega
  have b2 : (j : Int) < 4 := by omega
  have b3 : (0 : Int) ≤ (h : Int) := by omega
  have b4 : (h : Int) < (K.nF : Int) := by omega
  have b5 : (0 : Int) ≤ (r : Int) := by omega
  have b6 : (r : Int) < 4 := by have := Hm.out; omega
  have a1 : IntKind.i64.wrap ((q : Int) + (c : Int)) = (q : Int) + (c : Int) := IntWalk.i64_in _ (by omega)
  have a2 : ((q : Int) + (c : Int)).tmod 4 = (r : Int) := by rw [Int.tmod_eq_emod_of_nonneg (by omega)]; have := Hm.out; omega
  have a3 : ((q : Int) + (c : Int)) % 4 = (r : Int) := by have := Hm.out; omega
  have e1 : ((d : Int) == -1) = false := by rw [beq_eq_false_iff_ne]; omega
  have e2 : ((c : Int) == 4) = false := by rw [beq_eq_false_iff_ne]; omega
  have e3 : (K.S s (3 + p * 2) != -1) = true := by rw [Hg.out, bne_iff_ne]; omega
  go_enter Tryz.func74, Tryz.ntmps74
  go_wp2
  go_quiet (fail)
  go_wp2_with fail
  refine (hasFrame_rep (((HR.out.alloc _).alloc _).drewN _) hs hp).mono ?_
  rintro e w1 ⟨rfl, rfl⟩
  go_wp2
  go_quiet (fail)
  go_wp2_with fail
  go_region_held3 (fun w' => w'.cell? ⟨bk, 0, none⟩ = some (.slice (some ⟨bf, 0, none⟩) K.nF K.nF) ∧ w'.cell? ⟨bd, d * 5, none⟩ = some (.int .i64 h) ∧ w'.cell? ⟨bd, d * 5 + 1, none⟩ = some (.int .i64 q) ∧ w'.cell? ⟨bd, d * 5 + 2, none⟩ = some (.int .i64 c) ∧ w'.cell? ⟨bf, g * 6 + 2 + j, none⟩ = some (.int .i64 (K.F g (2 + j)))) ((repeat' apply And.intro) <;> (first | (go_keep; done) | (refine keep_same ?_; go_keep)))
    (first | (go_at_call 100; refine (words_rep (((HR.out.alloc _).alloc _).drewN _) hs hp Hg.out hg).mono ?_; rintro e w1 ⟨rfl, nq', rfl⟩))
  all_goals go_wp2
  all_goals
    go_ret2
    exact Ends.mk (show Hid _ from rfl) (((((HR.out.alloc _).alloc _).drewN _).setF hh (by have := Hm.out; omega) (by omega) _).setD hd (by omega) (by omega) _) ((((((Keeps.refl w).alloc _).alloc _).drewN _).setF _ _).setD _ _)

/-- Write refuses: the file is none. -/
theorem write_e1 (R : Rep w bk bf bs bd K) {s x p j : Nat} (hs : s < K.nS) (hx : x < 4) (Hd : Hid (K.S s (11 + x * 2) = -1)) :
    Calls Tryz.prog 74 #[.pointer (some ⟨bk, 0, none⟩), .int .i64 s, .agg #[.int .i64 x, .int .i64 p, .int .i64 j]] w (Ends bk bf bs bd w ⟨K, 0, 8⟩) := by
  have HR : Hid (Rep w bk bf bs bd K) := R
  have m2 := R.hS
  have k1 := fun o => (HR.out.alloc o).k1
  have c1 : ∀ o, (w.alloc o).cell? ⟨bs, s * 20 + 11 + x * 2, none⟩ = some (.int .i64 (-1)) := fun o => by rw [(HR.out.alloc o).ff hs hx, Hd.out]
  have c2 := fun o => (HR.out.alloc o).fe hs hx
  clear R
  go_enter Tryz.func74, Tryz.ntmps74
  go_wp2
  go_quiet (fail)
  go_wp2
  go_ret2
  exact Ends.mk (show Hid _ from rfl) (((HR.out.alloc _).alloc _).drewN _) ((((Keeps.refl w).alloc _).alloc _).drewN _)
/-- Write refuses: the file does not write. -/
theorem write_e2 (R : Rep w bk bf bs bd K) {s x p j d : Nat} (hs : s < K.nS) (hx : x < 4) (Hd : Hid (K.S s (11 + x * 2) = d)) (he : K.B s (12 + x * 2) = false) :
    Calls Tryz.prog 74 #[.pointer (some ⟨bk, 0, none⟩), .int .i64 s, .agg #[.int .i64 x, .int .i64 p, .int .i64 j]] w (Ends bk bf bs bd w ⟨K, 0, 8⟩) := by
  have HR : Hid (Rep w bk bf bs bd K) := R
  have m2 := R.hS
  have k1 := fun o => (HR.out.alloc o).k1
  have c1 : ∀ o, (w.alloc o).cell? ⟨bs, s * 20 + 11 + x * 2, none⟩ = some (.int .i64 d) := fun o => by rw [(HR.out.alloc o).ff hs hx, Hd.out]
  have c2 : ∀ o, (w.alloc o).cell? ⟨bs, s * 20 + 11 + x * 2 + 1, none⟩ = some (.bool false) := fun o => by rw [(HR.out.alloc o).fe hs hx, he]
  have e1 : ((d : Int) == -1) = false := by rw [beq_eq_false_iff_ne]; omega
  clear R
  go_enter Tryz.func74, Tryz.ntmps74
  go_wp2
  go_quiet (fail)
  go_wp2
  go_ret2
  exact Ends.mk (show Hid _ from rfl) (((HR.out.alloc _).alloc _).drewN _) ((((Keeps.refl w).alloc _).alloc _).drewN _)
/-- Write refuses: the page has no frame. -/
theorem write_e3 (R : Rep w bk bf bs bd K) {s x p j d : Nat} (hs : s < K.nS) (hx : x < 4) (hp : p < 4) (Hd : Hid (K.S s (11 + x * 2) = d)) (he : K.B s (12 + x * 2) = true) (Hg : Hid (K.S s (3 + p * 2) = -1)) :
    Calls Tryz.prog 74 #[.pointer (some ⟨bk, 0, none⟩), .int .i64 s, .agg #[.int .i64 x, .int .i64 p, .int .i64 j]] w (Ends bk bf bs bd w ⟨K, 0, 6⟩) := by
  have HR : Hid (Rep w bk bf bs bd K) := R
  have m2 := R.hS
  have k1 := fun o => (HR.out.alloc o).k1
  have c1 : ∀ o, (w.alloc o).cell? ⟨bs, s * 20 + 11 + x * 2, none⟩ = some (.int .i64 d) := fun o => by rw [(HR.out.alloc o).ff hs hx, Hd.out]
  have c2 : ∀ o, (w.alloc o).cell? ⟨bs, s * 20 + 11 + x * 2 + 1, none⟩ = some (.bool true) := fun o => by rw [(HR.out.alloc o).fe hs hx, he]
  have e1 : ((d : Int) == -1) = false := by rw [beq_eq_false_iff_ne]; omega
  have e3 : (K.S s (3 + p * 2) != -1) = false := by rw [Hg.out]; rfl
  clear R
  go_enter Tryz.func74, Tryz.ntmps74
  go_wp2
  go_quiet (fail)
  go_wp2_with fail
  refine (hasFrame_rep (((HR.out.alloc _).alloc _).drewN _) hs hp).mono ?_
  rintro e w1 ⟨rfl, rfl⟩
  go_wp2
  go_ret2
  exact Ends.mk (show Hid _ from rfl) (((HR.out.alloc _).alloc _).drewN _) ((((Keeps.refl w).alloc _).alloc _).drewN _)
set_option maxHeartbeats 1000000 in
/-- Write refuses: nobody reads; or the ring is full. -/
theorem write_e4 (R : Rep w bk bf bs bd K) {s x p j d : Nat} (er : Int) (hs : s < K.nS) (hx : x < 4) (hp : p < 4) (Hd : Hid (K.S s (11 + x * 2) = d)) (hd : d < K.nD) (he : K.B s (12 + x * 2) = true) (Hg : Hid (K.S s (3 + p * 2) ≠ -1))
    (hq : (Hid (K.D d 3 = 0) ∧ Hid (er = 13)) ∨ (Hid (K.D d 3 ≠ 0) ∧ Hid (K.D d 2 = 4) ∧ Hid (er = 11))) :
    Calls Tryz.prog 74 #[.pointer (some ⟨bk, 0, none⟩), .int .i64 s, .agg #[.int .i64 x, .int .i64 p, .int .i64 j]] w (Ends bk bf bs bd w ⟨K, 0, er⟩) := by
  have HR : Hid (Rep w bk bf bs bd K) := R
  have m2 := R.hS; have m3 := R.hD
  have k1 := fun o => (HR.out.alloc o).k1
  have k2 := fun o o' => ((HR.out.alloc o).alloc o').k2
  have c1 : ∀ o, (w.alloc o).cell? ⟨bs, s * 20 + 11 + x * 2, none⟩ = some (.int .i64 d) := fun o => by rw [(HR.out.alloc o).ff hs hx, Hd.out]
  have c2 : ∀ o, (w.alloc o).cell? ⟨bs, s * 20 + 11 + x * 2 + 1, none⟩ = some (.bool true) := fun o => by rw [(HR.out.alloc o).fe hs hx, he]
  have c5 := fun o o' => ((HR.out.alloc o).alloc o').d2 hd
  have c6 := fun o o' => ((HR.out.alloc o).alloc o').d3 hd
  have e1 : ((d : Int) == -1) = false := by rw [beq_eq_false_iff_ne]; omega
  have e3 : (K.S s (3 + p * 2) != -1) = true := by rw [bne_iff_ne]; exact Hg.out
  clear R
  rcases hq with ⟨h1, h2⟩ | ⟨h1, h3, h2⟩
  · have e4 : (K.D d 3 == 0) = true := by rw [h1.out]; rfl
    go_enter Tryz.func74, Tryz.ntmps74
    go_wp2
    go_quiet (fail)
    go_wp2_with fail
    refine (hasFrame_rep (((HR.out.alloc _).alloc _).drewN _) hs hp).mono ?_
    rintro e w1 ⟨rfl, rfl⟩
    go_wp2
    go_quiet (fail)
    go_wp2
    go_ret2
    rw [h2.out]
    exact Ends.mk (show Hid _ from rfl) (((HR.out.alloc _).alloc _).drewN _) ((((Keeps.refl w).alloc _).alloc _).drewN _)
  · have e4 : (K.D d 3 == 0) = false := by rw [beq_eq_false_iff_ne]; exact h1.out
    have e5 : (K.D d 2 == 4) = true := by rw [h3.out]; rfl
    go_enter Tryz.func74, Tryz.ntmps74
    go_wp2
    go_quiet (fail)
    go_wp2_with fail
    refine (hasFrame_rep (((HR.out.alloc _).alloc _).drewN _) hs hp).mono ?_
    rintro e w1 ⟨rfl, rfl⟩
    go_wp2
    go_quiet (fail)
    go_wp2
    go_ret2
    rw [h2.out]
    exact Ends.mk (show Hid _ from rfl) (((HR.out.alloc _).alloc _).drewN _) ((((Keeps.refl w).alloc _).alloc _).drewN _)

theorem write_rep (R : Rep w bk bf bs bd K) (G : Good K) {s x p j : Nat} (hs : s < K.nS) (hx : x < 4) (hp : p < 4) (hj : j < 4) :
    Calls Tryz.prog 74 #[.pointer (some ⟨bk, 0, none⟩), .int .i64 s, .agg #[.int .i64 x, .int .i64 p, .int .i64 j]] w (Ends bk bf bs bd w (kWrite K s x p j)) := by
  unfold kWrite
  rcases G.file s x hs hx with h1 | ⟨h1, h2, h3⟩
  · rw [if_pos (Or.inl h1)]; exact write_e1 R hs hx h1
  obtain ⟨d, hd⟩ : ∃ d : Nat, K.file s x = d := ⟨(K.file s x).toNat, by omega⟩
  have hdn : d < K.nD := by omega
  rw [hd] at h3 ⊢
  simp only [Int.toNat_natCast] at h3 ⊢
  by_cases h4 : K.end s x = true
  · rw [if_neg (by rw [h4]; simp)]
    by_cases h5 : K.page s p = -1
    · rw [if_pos h5]; exact write_e3 R hs hx hp hd h4 h5
    rw [if_neg h5]
    by_cases h6 : K.D d 3 = 0
    · rw [if_pos h6]; exact write_e4 R 13 hs hx hp hd hdn h4 h5 (Or.inl ⟨h6, rfl⟩)
    rw [if_neg h6]
    by_cases h7 : K.D d 2 = 4
    · rw [if_pos h7]; exact write_e4 R 11 hs hx hp hd hdn h4 h5 (Or.inr ⟨h6, h7, rfl⟩)
    rw [if_neg h7]
    have h8 := G.head d hdn
    have h9 := G.cnt d hdn
    obtain ⟨g, hg⟩ : ∃ g : Nat, K.page s p = g := by rcases G.page s p hs hp with h | h; exact absurd h h5; exact ⟨(K.page s p).toNat, by omega⟩
    have hgl : g < K.nF := by rcases G.page s p hs hp with h | h; exact absurd h h5; omega
    obtain ⟨h, hh⟩ : ∃ h : Nat, K.D d 0 = h := ⟨(K.D d 0).toNat, by omega⟩
    have hhl : h < K.nF := by rcases G.duct d hdn with k | k <;> omega
    obtain ⟨q, hq⟩ : ∃ q : Nat, K.D d 1 = q := ⟨(K.D d 1).toNat, by omega⟩
    obtain ⟨c, hc⟩ : ∃ c : Nat, K.D d 2 = c := ⟨(K.D d 2).toNat, by omega⟩
    have := write_ok (r := (q + c) % 4) R hs hx hp hj hd hdn h4 hg hgl hh hhl hq (by omega) hc (by omega) (by rw [beq_eq_false_iff_ne]; exact h6) rfl
    rw [hg, hh, hq, hc]
    have e : (((q : Int) + (c : Int)) % 4).toNat = (q + c) % 4 := by omega
    simp only [Int.toNat_natCast, e]
    exact this
  · rw [if_pos (Or.inr (by simpa using h4))]; exact write_e2 R hs hx hd (by simpa [Ker.end] using h4)
end
end Go.Proofs.YtcgabodkegcpgaaGreatDoor
