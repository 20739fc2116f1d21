/- What the kernel's call Copy does (for every kernel whose numbers are ones). -/
import Derived.Test.YtcgabodkegcpgaaGreatDoorPrc2
import Derived.Deep.RegionHeld3
import Derived.Deep.DrawnRows
namespace Go.Proofs.YtcgabodkegcpgaaGreatDoor
open Go.RowKit
set_option linter.unusedVariables false
attribute [local go_sem ↓] Go.wp_at_zero Go.wp_at_succ

section
variable {bk bf bs bd : Nat} {K : Ker} {w : World}

theorem Rep.copyWords (R : Rep w bk bf bs bd K) {g h : Nat} (hg : g < K.nF) :
    Rep ((((w.setCell ⟨bf, g * 6 + 2, none⟩ (.int .i64 (K.F h 2))).setCell ⟨bf, g * 6 + 2 + 1, none⟩ (.int .i64 (K.F h 3))).setCell ⟨bf, g * 6 + 2 + 2, none⟩ (.int .i64 (K.F h 4))).setCell ⟨bf, g * 6 + 2 + 3, none⟩ (.int .i64 (K.F h 5))) bk bf bs bd (K.copyWords g h) := by
  have Ra := R.setF (c := 2) (o := g * 6 + 2) hg (by omega) rfl (K.F h 2)
  have ha : g < (K.setF g 2 (K.F h 2)).nF := hg
  have Rb := Ra.setF (c := 3) (o := g * 6 + 2 + 1) ha (by omega) (by omega) (K.F h 3)
  have hb : g < ((K.setF g 2 (K.F h 2)).setF g 3 (K.F h 3)).nF := ha
  have Rc := Rb.setF (c := 4) (o := g * 6 + 2 + 2) hb (by omega) (by omega) (K.F h 4)
  have hc : g < (((K.setF g 2 (K.F h 2)).setF g 3 (K.F h 3)).setF g 4 (K.F h 4)).nF := hb
  exact Rc.setF (c := 5) (o := g * 6 + 2 + 3) hc (by omega) (by omega) (K.F h 5)

set_option maxHeartbeats 2000000 in
theorem copy_rep (R : Rep w bk bf bs bd K) (G : Good K) {s c p f : Nat} (hs : s < K.nS) (hc : c < K.nS) (hp : p < 4) (hf : f < K.nF) :
    Calls Tryz.prog 64 #[.pointer (some ⟨bk, 0, none⟩), .int .i64 s, .agg #[.int .i64 c, .int .i64 p, .int .i64 f]] w (Ends bk bf bs bd w (kCopy K s c p f)) := by
  have HR : Hid (Rep w bk bf bs bd K) := R
  have hn := R.hS; have hm := R.hF
  clear R
  by_cases h0 : K.embryo s c = true
  · by_cases h1 : K.page s p = -1
    · have e1 : (K.S s (3 + p * 2) != -1) = false := by simpa [Ker.page] using h1
      have E : Hid (kCopy K s c p f = ⟨K, 0, 6⟩) := by unfold kCopy; simp [h0, h1, Hid]
      clear h1
      go_enter Tryz.func64, Tryz.ntmps64
      go_wp2
      go_quiet (fail)
      go_wp2_with fail
      refine (isEmbryoOf_rep ((HR.out.alloc _).drewN _) hc).mono ?_
      rintro e w1 ⟨rfl, rfl⟩
      go_wp2_with fail
      refine (hasFrame_rep ((HR.out.alloc _).drewN _) hs hp).mono ?_
      rintro e w1 ⟨rfl, rfl⟩
      go_wp2
      go_ret2
      exact Ends.mk E ((HR.out.alloc _).drewN _) (((Keeps.refl w).alloc _).drewN _)
    · have e1 : (K.S s (3 + p * 2) != -1) = true := by simpa [Ker.page] using h1
      by_cases h2 : K.page c p = -1
      · have e2 : (K.S c (3 + p * 2) != -1) = false := by simpa [Ker.page] using h2
        by_cases h3 : K.F f 0 = 0
        · have e3 : (K.F f 0 == 0) = true := by simpa using h3
          obtain ⟨g, hg⟩ : ∃ g : Nat, K.page s p = g := by rcases G.page s p hs hp with h | h; exact absurd h h1; exact ⟨(K.page s p).toNat, by omega⟩
          have hl : g < K.nF := by rcases G.page s p hs hp with h | h; exact absurd h h1; omega
          have hsc : s ≠ c := by rintro rfl; exact h1 h2
          have E : Hid (kCopy K s c p f = ⟨((K.become f 2 c).setPage c p f (K.wr s p)).copyWords f g, 0, 0⟩) := by unfold kCopy; simp [h0, h2, h3, hg, Hid]
          have Hg : Hid (K.S s (3 + p * 2) = g) := hg
          have Hsc : Hid (s ≠ c) := hsc
          clear h1 h2 h3 hg hsc
          go_enter Tryz.func64, Tryz.ntmps64
          go_wp2
          go_quiet (fail)
          go_wp2_with fail
          refine (isEmbryoOf_rep ((HR.out.alloc _).drewN _) hc).mono ?_
          rintro e w1 ⟨rfl, rfl⟩
          go_wp2_with fail
          refine (hasFrame_rep ((HR.out.alloc _).drewN _) hs hp).mono ?_
          rintro e w1 ⟨rfl, rfl⟩
          go_wp2_with fail
          refine (hasFrame_rep ((HR.out.alloc _).drewN _) hc hp).mono ?_
          rintro e w1 ⟨rfl, rfl⟩
          go_wp2_with fail
          refine (isFree_rep ((HR.out.alloc _).drewN _) hf).mono ?_
          rintro e w1 ⟨rfl, rfl⟩
          go_wp2_with fail
          refine (become_rep ((HR.out.alloc _).drewN _) 2 _ hf).mono ?_
          rintro e w1 ⟨rfl, R1, q1⟩
          have HR1 : Hid (Rep w1 bk bf bs bd (K.become f 2 c)) := R1
          have Hq1 : Hid (Keeps bf bs bd w w1) := (((Keeps.refl w).alloc _).drewN _).trans q1
          have t1 : c < (K.become f 2 c).nS := hc
          have t2 : s < (K.become f 2 c).nS := hs
          have t3 : f < (K.become f 2 c).nF := hf
          have t4 : g < (K.become f 2 c).nF := hl
          have t5 : (K.become f 2 c).S s (3 + p * 2) = g := Hg.out
          have t6 : K.wr s p = (K.become f 2 c).B s (4 + p * 2) := rfl
          have Ht5 : Hid _ := t5
          have HE : Hid (kCopy K s c p f = ⟨((K.become f 2 c).setPage c p f ((K.become f 2 c).B s (4 + p * 2))).copyWords f g, 0, 0⟩) := E
          clear R1 q1 t5 t6 E
          generalize K.become f 2 c = K1 at *
          have r0 := HR1.out.k1
          have r1 := HR1.out.pf t1 hp
          have r2 := HR1.out.pw t1 hp
          have r3 := HR1.out.zs
          have r4 := HR1.out.hS
          have n1 := HR1.out.ks
          have n2 : bs ≠ bk := fun e => n1 e.symm
          have i1 : (0 : Int) ≤ (c : Int) := by omega
          have i2 : (c : Int) < (K1.nS : Int) := by omega
          have i3 : (0 : Int) ≤ (p : Int) := by omega
          have i4 : (p : Int) < 4 := by omega
          go_wp2_with fail
          go_region_held3 (fun w' => w'.cell? ⟨bk, 1, none⟩ = some (.slice (some ⟨bs, 0, none⟩) K1.nS K1.nS)) (go_keep) (first | (go_at_call 99; refine (mayWrite_rep HR1.out.drew t2 hp).mono ?_; rintro e w2 ⟨rfl, rfl⟩))
          have HR2 : Hid (Rep _ bk bf bs bd (K1.setPage c p f (K1.B s (4 + p * 2)))) := ((HR1.out.setS (c := 3 + p * 2) (o := c * 20 + 3 + p * 2) t1 (by omega) (not_isBp p) (by omega) f).setB (c := 4 + p * 2) (o := c * 20 + 3 + p * 2 + 1) t1 (isBp p hp) (by omega) (K1.B s (4 + p * 2)))
          have Hq2 : Hid (Keeps bf bs bd w _) := ((Hq1.out.setS (c * 20 + 3 + p * 2) (.int .i64 f)).setS (c * 20 + 3 + p * 2 + 1) (.bool (K1.B s (4 + p * 2))))
          have u1 : c < (K1.setPage c p f (K1.B s (4 + p * 2))).nS := t1
          have u2 : s < (K1.setPage c p f (K1.B s (4 + p * 2))).nS := t2
          have u3 : f < (K1.setPage c p f (K1.B s (4 + p * 2))).nF := t3
          have u4 : g < (K1.setPage c p f (K1.B s (4 + p * 2))).nF := t4
          have u5 : (K1.setPage c p f (K1.B s (4 + p * 2))).S c (3 + p * 2) = f := upd_same _ _ _ _
          have u6 : (K1.setPage c p f (K1.B s (4 + p * 2))).S s (3 + p * 2) = g := (upd_other K1.S c (3 + p * 2) f s (3 + p * 2) (by have := Hsc.out; omega)).trans Ht5.out
          have Hu5 : Hid _ := u5
          have Hu6 : Hid _ := u6
          clear u5 u6 r0 r1 r2
          go_wp2_with fail
          refine (words_rep HR2.out.drew u1 hp Hu5.out u3).mono ?_
          rintro e w2 ⟨rfl, nq1, rfl⟩
          go_wp2_with fail
          refine (words_rep (HR2.out.drewN _) u2 hp Hu6.out u4).mono ?_
          rintro e w2 ⟨rfl, nq2, rfl⟩
          have v0 := HR2.out.f g 2 u4 (by omega)
          have v1 := HR2.out.f g 3 u4 (by omega)
          have v2 := HR2.out.f g 4 u4 (by omega)
          have v3 := HR2.out.f g 5 u4 (by omega)
          have x0 := HR2.out.f f 2 u3 (by omega)
          have x1 := HR2.out.f f 3 u3 (by omega)
          have x2 := HR2.out.f f 4 u3 (by omega)
          have x3 := HR2.out.f f 5 u3 (by omega)
          have zf := HR2.out.zf
          have HRc : Hid _ := HR2.out.copyWords (g := f) (h := g) u3
          have Hqc : Hid (Keeps bf bs bd w _) := (((Hq2.out.setF (f * 6 + 2) (.int .i64 ((K1.setPage c p f (K1.B s (4 + p * 2))).F g 2))).setF (f * 6 + 2 + 1) (.int .i64 ((K1.setPage c p f (K1.B s (4 + p * 2))).F g 3))).setF (f * 6 + 2 + 2) (.int .i64 ((K1.setPage c p f (K1.B s (4 + p * 2))).F g 4))).setF (f * 6 + 2 + 3) (.int .i64 ((K1.setPage c p f (K1.B s (4 + p * 2))).F g 5))
          generalize hW : ((w1.setCell ⟨bs, c * 20 + 3 + p * 2, none⟩ (.int .i64 f)).setCell ⟨bs, c * 20 + 3 + p * 2 + 1, none⟩ (.bool (K1.B s (4 + p * 2)))) = W at *
          clear hW HR1 Hq1 HR2 Hq2
          go_wp2
          go_ret2
          exact Ends.mk HE (HRc.out.drewN _) (Hqc.out.drewN _)
        · have e3 : (K.F f 0 == 0) = false := by simpa using h3
          have E : Hid (kCopy K s c p f = ⟨K, 0, 5⟩) := by unfold kCopy; simp [h0, h1, h2, h3, Hid]
          clear h1 h2 h3
          go_enter Tryz.func64, Tryz.ntmps64
          go_wp2
          go_quiet (fail)
          go_wp2_with fail
          refine (isEmbryoOf_rep ((HR.out.alloc _).drewN _) hc).mono ?_
          rintro e w1 ⟨rfl, rfl⟩
          go_wp2_with fail
          refine (hasFrame_rep ((HR.out.alloc _).drewN _) hs hp).mono ?_
          rintro e w1 ⟨rfl, rfl⟩
          go_wp2_with fail
          refine (hasFrame_rep ((HR.out.alloc _).drewN _) hc hp).mono ?_
          rintro e w1 ⟨rfl, rfl⟩
          go_wp2_with fail
          refine (isFree_rep ((HR.out.alloc _).drewN _) hf).mono ?_
          rintro e w1 ⟨rfl, rfl⟩
          go_wp2
          go_ret2
          exact Ends.mk E ((HR.out.alloc _).drewN _) (((Keeps.refl w).alloc _).drewN _)
      · have e2 : (K.S c (3 + p * 2) != -1) = true := by simpa [Ker.page] using h2
        have E : Hid (kCopy K s c p f = ⟨K, 0, 6⟩) := by unfold kCopy; simp [h0, h2, Hid]
        clear h1 h2
        go_enter Tryz.func64, Tryz.ntmps64
        go_wp2
        go_quiet (fail)
        go_wp2_with fail
        refine (isEmbryoOf_rep ((HR.out.alloc _).drewN _) hc).mono ?_
        rintro e w1 ⟨rfl, rfl⟩
        go_wp2_with fail
        refine (hasFrame_rep ((HR.out.alloc _).drewN _) hs hp).mono ?_
        rintro e w1 ⟨rfl, rfl⟩
        go_wp2_with fail
        refine (hasFrame_rep ((HR.out.alloc _).drewN _) hc hp).mono ?_
        rintro e w1 ⟨rfl, rfl⟩
        go_wp2
        go_ret2
        exact Ends.mk E ((HR.out.alloc _).drewN _) (((Keeps.refl w).alloc _).drewN _)
  · have h0' : K.embryo s c = false := by simpa using h0
    have E : Hid (kCopy K s c p f = ⟨K, 0, 7⟩) := by unfold kCopy; simp [h0', Hid]
    clear h0
    go_enter Tryz.func64, Tryz.ntmps64
    go_wp2
    go_quiet (fail)
    go_wp2_with fail
    refine (isEmbryoOf_rep ((HR.out.alloc _).drewN _) hc).mono ?_
    rintro e w1 ⟨rfl, rfl⟩
    go_wp2
    go_ret2
    exact Ends.mk E ((HR.out.alloc _).drewN _) (((Keeps.refl w).alloc _).drewN _)
end
end Go.Proofs.YtcgabodkegcpgaaGreatDoor
