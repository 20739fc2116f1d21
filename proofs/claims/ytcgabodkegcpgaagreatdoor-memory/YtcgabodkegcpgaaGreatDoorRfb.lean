/- The reference's Read. -/
import Derived.Test.YtcgabodkegcpgaaGreatDoorRfa
namespace Go.Proofs.YtcgabodkegcpgaaGreatDoor
open Go.RowKit
set_option linter.unusedVariables false
set_option linter.unusedSimpArgs false
attribute [local go_sem ↓] Go.wp_at_zero Go.wp_at_succ

section
variable {w : World} {B : RB} {r : Rk} {K : Ker}
set_option maxRecDepth 100000 in
set_option maxHeartbeats 4000000 in
theorem words_read (M : RMem w B r) (U : Rel K r) (O : Own K) (I : Inv K) {s x p j : Nat} (hs : s < K.nS) (hx : x < 4) (hp : p < 4) (hj : j < 4) :
    Calls Tryz.prog 44 #[.pointer (some ⟨B.b, 0, none⟩), .int .i64 s, .int .i64 17, .int .i64 x, .int .i64 p, .int .i64 j] w (REnds B w (kRead K s x p j)) := by
  have HM : Hid (RMem w B r) := M
  have HU : Hid (Rel K r) := U
  have k0 := M.k0
  have k1 := M.k1
  have hD : K.nD ≤ 4 := by have := M.hD; have := U.d; omega
  have hF : r.nF ≤ 32 := M.hF
  have EF : Hid (r.nF = K.nF ∧ r.nD = K.nD) := ⟨U.f, U.d⟩
  have hs' : s < r.nS := by have := U.s; omega
  have k2 : w.cell? ⟨B.b, 2, none⟩ = some (.slice (B.aq 0) r.nD (B.cq 0)) := M.k2 0 (by omega)
  have k3 : w.cell? ⟨B.b, 3, none⟩ = some (.slice (B.aq 1) r.nD (B.cq 1)) := M.k2 1 (by omega)
  have k4 : w.cell? ⟨B.b, 4, none⟩ = some (.slice (B.aq 2) r.nD (B.cq 2)) := M.k2 2 (by omega)
  have l1 : (0 : Int) ≤ (s : Int) := by omega
  have l2 : (s : Int) < (r.nS : Int) := by omega
  have x1 : (0 : Int) ≤ (x : Int) := by omega
  have x2 : (x : Int) < 4 := by omega
  have p1 : (0 : Int) ≤ (p : Int) := by omega
  have p2 : (p : Int) < 4 := by omega
  have j1 : (0 : Int) ≤ (j : Int) := by omega
  have j2 : (j : Int) < 4 := by omega
  have c1 : w.cell? ⟨B.bp, s * 12 + 8 + x, none⟩ = some (.int .i64 (r.P s (8 + x))) := by rw [Nat.add_assoc]; exact M.pr s (8 + x) hs' (by omega)
  have c2 : w.cell? ⟨B.bp, s * 12 + 4 + p, none⟩ = some (.int .i64 (r.P s (4 + p))) := by rw [Nat.add_assoc]; exact M.pr s (4 + p) hs' (by omega)
  clear M U
  go_enter Tryz.func44, Tryz.ntmps44
  rcases file_cases I.good HU.out hs hx hD with ⟨h1, h2⟩ | ⟨d, h1, h2, h3, h4, h5, h6⟩
  · have E : Hid (kRead K s x p j = ⟨K, 0, 8⟩) := by unfold kRead Hid; rw [if_pos (Or.inl h1)]
    rw [h2] at c1
    go_wp2
    go_ret2
    exact REnds.mk E HM.out HU.out (RKeeps.refl _)
  · rw [encP_some] at h4
    have hm := mod_enc d (K.end s x)
    have hq := half_enc d (K.end s x)
    rw [← h4] at hm hq
    obtain ⟨v, hv⟩ : ∃ v, r.P s (8 + x) = v := ⟨_, rfl⟩
    rw [hv] at c1 h5 h6 hm hq
    have ne : ¬ v = 0 := by omega
    clear h4 hv
    rw [Int.tmod_eq_emod_of_nonneg (by omega)] at hm
    cases he : K.end s x with
    | true =>
      have E : Hid (kRead K s x p j = ⟨K, 0, 8⟩) := by unfold kRead Hid; rw [if_pos (Or.inr he)]
      rw [he] at hm
      simp only [if_true] at hm
      have hm2 : v.tmod 2 = 0 := by rw [Int.tmod_eq_emod_of_nonneg (by omega)]; exact hm
      clear he
      go_wp2
      go_ret2
      exact REnds.mk E HM.out HU.out (RKeeps.refl _)
    | false =>
      rw [he] at hm
      simp only [Bool.false_eq_true, if_false] at hm
      have hm2 : v.tmod 2 = 1 := by rw [Int.tmod_eq_emod_of_nonneg (by omega)]; exact hm
      rcases enc_cases I.good HU.out hs hp (by have := EF.out; omega) with ⟨g1, g2, g3⟩ | ⟨g, g1, g2, g3⟩
      · have E : Hid (kRead K s x p j = ⟨K, 0, 6⟩) := by unfold kRead Hid; rw [if_neg (by rw [h1, he]; simp), if_pos g2]
        rw [g3] at c2
        clear he
        go_wp2
        go_ret2
        exact REnds.mk E HM.out HU.out (RKeeps.refl _)
      · have hg32 : g < 32 := by have := EF.out; omega
        have hg' : g < r.nF := by have := EF.out; omega
        have hd' : d < r.nD := by have := EF.out; omega
        have hk : K.F g 0 = 2 := (O.what (.page s p) ⟨hs, hp⟩ g g1).1
        rcases g3 with ⟨gw, g3⟩ | ⟨gw, g3⟩
        · have E : Hid (kRead K s x p j = ⟨K, 0, 6⟩) := by unfold kRead Hid; rw [if_neg (by rw [h1, he]; simp), if_pos gw]
          have hu2 := mod_enc g false
          have hq2 := half_enc g false
          simp only [Bool.false_eq_true, if_false] at hu2 hq2
          obtain ⟨u, hu, hu0, hu1⟩ : ∃ u, 2 * (g : Int) + 1 = u ∧ 0 < u ∧ u < 100 := ⟨_, rfl, by omega, by omega⟩
          rw [g3, hu] at c2
          rw [hu] at hu2 hq2
          have hu3 : u % 2 = 1 := by rw [← Int.tmod_eq_emod_of_nonneg (by omega)]; exact hu2
          have neu : ¬ u = 0 := by omega
          clear he hu g3
          go_wp2
          go_ret2
          exact REnds.mk E HM.out HU.out (RKeeps.refl _)
        · have hu2 := mod_enc g true
          have hq2 := half_enc g true
          simp only [if_true] at hu2 hq2
          obtain ⟨u, hu, hu0, hu1⟩ : ∃ u, 2 * (g : Int) + 2 = u ∧ 0 < u ∧ u < 100 := ⟨_, rfl, by omega, by omega⟩
          rw [g3, hu] at c2
          rw [hu] at hu2 hq2
          have hu3 : u % 2 = 0 := by rw [← Int.tmod_eq_emod_of_nonneg (by omega)]; exact hu2
          have neu : ¬ u = 0 := by omega
          rw [HM.out.aq 0 (by omega) (by omega)] at k2
          rw [HM.out.aq 1 (by omega) (by omega)] at k3
          rw [HM.out.aq 2 (by omega) (by omega)] at k4
          have D1 := I.good.head d h2
          have D2 := I.good.cnt d h2
          have D0 := I.good.duct d h2
          obtain ⟨h, hh⟩ : ∃ h : Nat, K.D d 0 = h := ⟨(K.D d 0).toNat, by omega⟩
          obtain ⟨q, hhq⟩ : ∃ q : Nat, K.D d 1 = q := ⟨(K.D d 1).toNat, by omega⟩
          obtain ⟨c, hc⟩ : ∃ c : Nat, K.D d 2 = c := ⟨(K.D d 2).toNat, by omega⟩
          have c5 := HM.out.rg d 0 hd' (by omega)
          have c6 := HM.out.rg d 1 hd' (by omega)
          have c7 := HM.out.rg d 2 hd' (by omega)
          rw [HU.out.q d 0 h2 (by omega), hh] at c5
          rw [HU.out.q d 1 h2 (by omega), hhq] at c6
          rw [HU.out.q d 2 h2 (by omega), hc] at c7
          have hh' : h < r.nF := by have := EF.out; omega
          have hhK : h < K.nF := by have := EF.out; omega
          have hq4 : q < 4 := by omega
          have hc4 : c ≤ 4 := by omega
          have m1 : (0 : Int) ≤ (d : Int) := by omega
          have m2 : (d : Int) < (r.nD : Int) := by omega
          have o1 : (0 : Int) ≤ (g : Int) := by omega
          have o2 : (g : Int) < (r.nF : Int) := by omega
          have o3 : (0 : Int) ≤ (h : Int) := by omega
          have o4 : (h : Int) < (r.nF : Int) := by omega
          have o5 : (0 : Int) ≤ (q : Int) := by omega
          have o6 : (q : Int) < 4 := by omega
          have HI : Hid (K.D d 4 = K.ends d true) := I.wts d h2
          have hkh : K.F h 0 = 3 := (O.what (.ring d) h2 h hh).1
          have CL : K.ends d true ≤ 24 := I.bounds true
          have E0 : Hid (∀ o, (if K.D d 2 = 0 ∧ K.D d 4 = 0 then (⟨K, 0, 12⟩ : Out) else if K.D d 2 = 0 then ⟨K, 0, 11⟩ else ⟨((K.setF g (2 + j) (K.F h (2 + q))).setD d 1 (((q : Int) + 1) % 4)).setD d 2 ((c : Int) - 1), 0, 0⟩) = o → kRead K s x p j = o) := fun o ho => by
            unfold kRead
            rw [if_neg (by rw [h1, he]; simp), if_neg (by simp [gw]), h1, Int.toNat_natCast, g1, Int.toNat_natCast, hh, Int.toNat_natCast, hhq, Int.toNat_natCast, ← ho, hc]
          have Hc : Hid (K.D d 2 = c) := hc
          clear he hm D0 D1 D2 hh hhq hc hu g3 gw
          by_cases hc0 : c = 0
          · subst hc0
            have c7z : w.cell? ⟨B.bq 2, d, none⟩ = some (.int .i64 0) := c7
            clear c7
            go_wp2_with fail
            refine (ends_rep HM.out HU.out I.good (d := d) (by omega) true).mono ?_
            rintro e w1 ⟨rfl, rfl⟩
            by_cases hz : K.ends d true = 0
            · have E : Hid (kRead K s x p j = ⟨K, 0, 12⟩) := E0.out _ (by rw [if_pos ⟨by rw [Hc.out]; rfl, by rw [HI.out, hz]; rfl⟩])
              rw [hz]
              clear E0 hz
              go_wp2
              go_ret2
              exact REnds.mk E HM.out HU.out (RKeeps.refl _)
            · have E : Hid (kRead K s x p j = ⟨K, 0, 11⟩) := E0.out _ (by rw [if_neg (by rw [HI.out]; omega), if_pos (by rw [Hc.out]; rfl)])
              have ez : (((K.ends d true : Nat) : Int) == 0) = false := by simp; omega
              clear E0 hz
              generalize K.ends d true = en at *
              go_wp2
              go_ret2
              exact REnds.mk E HM.out HU.out (RKeeps.refl _)
          · have E : Hid (kRead K s x p j = ⟨((K.setF g (2 + j) (K.F h (2 + q))).setD d 1 (((q : Int) + 1) % 4)).setD d 2 ((c : Int) - 1), 0, 0⟩) := E0.out _ (by rw [if_neg (by rw [Hc.out]; omega), if_neg (by rw [Hc.out]; omega)])
            have e4 : ((c : Int) == 0) = false := by simp; omega
            obtain ⟨y, hy⟩ : ∃ y, r.W h q = y := ⟨_, rfl⟩
            have HY : Hid (K.F h (2 + q) = y) := by unfold Hid; rw [← hy, HU.out.w h q hhK hq4 (Or.inr hkh)]
            have ch := HM.out.wd h q hh' hq4
            rw [hy] at ch
            have cgj := HM.out.wd g j hg' hj
            have zw := HM.out.zw
            have zq1 := fun o => HM.out.zq 1 o (by omega) (show 0 < r.nD by omega)
            have zq2 := fun o => HM.out.zq 2 o (by omega) (show 0 < r.nD by omega)
            have a1 : IntKind.i64.wrap ((q : Int) + 1) = (q : Int) + 1 := IntWalk.i64_in _ (by omega)
            have a2 : ((q : Int) + 1).tmod 4 = ((q : Int) + 1) % 4 := Int.tmod_eq_emod_of_nonneg (by omega)
            have n1 := HM.out.bw
            have n2 := HM.out.wq 1 (by omega)
            have n3 := HM.out.wq 2 (by omega)
            have n4 := HM.out.bq 2 (by omega)
            have n9 := HM.out.bq 1 (by omega)
            have n10 := HM.out.qq 1 2 (by omega) (by omega) (by omega)
            have n5 := Ne.symm n1
            have n6 := Ne.symm n2
            have n7 := Ne.symm n3
            have n8 := Ne.symm n4
            have n11 := Ne.symm n9
            have n12 := Ne.symm n10
            clear E0 hy
            go_wp2_with fail
            go_region_held3 (fun w' => w'.cell? ⟨B.b, 0, none⟩ = some (.slice (some ⟨B.bw, 0, none⟩) r.nF B.cw) ∧ w'.cell? ⟨B.b, 3, none⟩ = some (.slice (some ⟨B.bq 1, 0, none⟩) r.nD (B.cq 1)) ∧ w'.cell? ⟨B.bq 1, d, none⟩ = some (.int .i64 q) ∧ w'.cell? ⟨B.bw, h * 4 + q, none⟩ = some (.int .i64 y)) ((repeat' apply And.intro) <;> (first | (go_keep; done) | (refine keep_same ?_; go_keep) | (refine keep_same_drew ?_; go_keep))) (fail)
            go_wp2_with fail
            go_region
            all_goals go_wp2
            all_goals
              go_ret2
              refine REnds.mk E ((((HM.out.setW (i := g) (c := j) (o := g * 4 + j) hg' hj rfl y).setR (d := d) (q := 1) hd' (by omega) (((q : Int) + 1) % 4)).setR (d := d) (q := 2) hd' (by omega) ((c : Int) - 1)).drew.drew) ?_ (((((RKeeps.refl _).setW _ _).setR (q := 1) (by omega) _ _).setR (q := 2) (by omega) _ _).drew.drew)
              rw [HY.out]
              exact ((HU.out.setWord g j y hj).setR d 1 _ (by omega)).setR d 2 _ (by omega)
end
end Go.Proofs.YtcgabodkegcpgaaGreatDoor
