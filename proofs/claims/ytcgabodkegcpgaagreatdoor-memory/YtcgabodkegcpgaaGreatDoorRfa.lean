/- The reference's Write. -/
import Derived.Test.YtcgabodkegcpgaaGreatDoorRf9
namespace Go.Proofs.YtcgabodkegcpgaaGreatDoor
open Go.RowKit
set_option linter.unusedVariables false
set_option linter.unusedSimpArgs false
attribute [local go_sem ↓] Go.wp_at_zero Go.wp_at_succ

theorem Rel.setR {K : Ker} {r : Rk} (U : Rel K r) (d q : Nat) (v : Int) (hq : q < 3) : Rel (K.setD d q v) (r.setR d q v) := by
  refine ⟨U.f, U.s, U.d, U.p, U.w, fun e c he hc => ?_⟩
  show upd r.R d q v e c = upd K.D d q v e c
  unfold upd
  split
  · rfl
  · exact U.q e c he hc
theorem mod_enc (n : Nat) (b : Bool) : (2 * (n : Int) + (if b then 2 else 1)).tmod 2 = if b then 0 else 1 := by
  cases b
  · simp only [Bool.false_eq_true, if_false]
    rw [show (2 * (n : Int) + 1) = ((2 * n + 1 : Nat) : Int) by omega, show (2 : Int) = ((2 : Nat) : Int) by rfl, ← Int.ofNat_tmod]; omega
  · simp only [if_true]
    rw [show (2 * (n : Int) + 2) = ((2 * n + 2 : Nat) : Int) by omega, show (2 : Int) = ((2 : Nat) : Int) by rfl, ← Int.ofNat_tmod]; omega

section
variable {w : World} {B : RB} {r : Rk} {K : Ker}
set_option maxRecDepth 100000 in
set_option maxHeartbeats 4000000 in
theorem words_write (M : RMem w B r) (U : Rel K r) (O : Own K) (I : Inv K) {s x p j : Nat} (hs : s < K.nS) (hx : x < 4) (hp : p < 4) (hj : j < 4) :
    Calls Tryz.prog 44 #[.pointer (some ⟨B.b, 0, none⟩), .int .i64 s, .int .i64 16, .int .i64 x, .int .i64 p, .int .i64 j] w (REnds B w (kWrite K s x p j)) := by
  have HM : Hid (RMem w B r) := M
  have HU : Hid (Rel K r) := U
  have k0 := M.k0
  have k1 := M.k1
  have hD : K.nD ≤ 4 := by have := M.hD; have := U.d; omega
  have hF : r.nF ≤ 32 := M.hF
  have EF : Hid (r.nF = K.nF ∧ r.nD = K.nD) := ⟨U.f, U.d⟩
  have hs' : s < r.nS := by have := U.s; omega
  have k2 : w.cell? ⟨B.b, 2, none⟩ = some (.slice (B.aq 0) r.nD (B.cq 0)) := M.k2 0 (by omega)
  have k3 : w.cell? ⟨B.b, 3, none⟩ = some (.slice (B.aq 1) r.nD (B.cq 1)) := M.k2 1 (by omega)
  have k4 : w.cell? ⟨B.b, 4, none⟩ = some (.slice (B.aq 2) r.nD (B.cq 2)) := M.k2 2 (by omega)
  have l1 : (0 : Int) ≤ (s : Int) := by omega
  have l2 : (s : Int) < (r.nS : Int) := by omega
  have x1 : (0 : Int) ≤ (x : Int) := by omega
  have x2 : (x : Int) < 4 := by omega
  have p1 : (0 : Int) ≤ (p : Int) := by omega
  have p2 : (p : Int) < 4 := by omega
  have j1 : (0 : Int) ≤ (j : Int) := by omega
  have j2 : (j : Int) < 4 := by omega
  have c1 : w.cell? ⟨B.bp, s * 12 + 8 + x, none⟩ = some (.int .i64 (r.P s (8 + x))) := by rw [Nat.add_assoc]; exact M.pr s (8 + x) hs' (by omega)
  have c2 : w.cell? ⟨B.bp, s * 12 + 4 + p, none⟩ = some (.int .i64 (r.P s (4 + p))) := by rw [Nat.add_assoc]; exact M.pr s (4 + p) hs' (by omega)
  clear M U
  go_enter Tryz.func44, Tryz.ntmps44
  rcases file_cases I.good HU.out hs hx hD with ⟨h1, h2⟩ | ⟨d, h1, h2, h3, h4, h5, h6⟩
  · have E : Hid (kWrite K s x p j = ⟨K, 0, 8⟩) := by unfold kWrite Hid; rw [if_pos (Or.inl h1)]
    rw [h2] at c1
    go_wp2
    go_ret2
    exact REnds.mk E HM.out HU.out (RKeeps.refl _)
  · rw [encP_some] at h4
    have hm := mod_enc d (K.end s x)
    have hq := half_enc d (K.end s x)
    rw [← h4] at hm hq
    obtain ⟨v, hv⟩ : ∃ v, r.P s (8 + x) = v := ⟨_, rfl⟩
    rw [hv] at c1 h5 h6 hm hq
    have ne : ¬ v = 0 := by omega
    clear h4 hv
    rw [Int.tmod_eq_emod_of_nonneg (by omega)] at hm
    cases he : K.end s x with
    | false =>
      have E : Hid (kWrite K s x p j = ⟨K, 0, 8⟩) := by unfold kWrite Hid; rw [if_pos (Or.inr he)]
      rw [he] at hm
      simp only [Bool.false_eq_true, if_false] at hm
      have hm2 : v.tmod 2 = 1 := by rw [Int.tmod_eq_emod_of_nonneg (by omega)]; exact hm
      clear he
      go_wp2
      go_ret2
      exact REnds.mk E HM.out HU.out (RKeeps.refl _)
    | true =>
      rw [he] at hm
      simp only [if_true] at hm
      have hm2 : v.tmod 2 = 0 := by rw [Int.tmod_eq_emod_of_nonneg (by omega)]; exact hm
      rcases enc_cases I.good HU.out hs hp (by have := EF.out; omega) with ⟨g1, g2, g3⟩ | ⟨g, g1, g2, g3⟩
      · have E : Hid (kWrite K s x p j = ⟨K, 0, 6⟩) := by unfold kWrite Hid; rw [if_neg (by simp [he]; omega), if_pos g1]
        rw [g3] at c2
        clear he
        go_wp2
        go_ret2
        exact REnds.mk E HM.out HU.out (RKeeps.refl _)
      · have hg32 : g < 32 := by have := EF.out; omega
        have hg' : g < r.nF := by have := EF.out; omega
        have hd' : d < r.nD := by have := EF.out; omega
        have hk : K.F g 0 = 2 := (O.what (.page s p) ⟨hs, hp⟩ g g1).1
        obtain ⟨u, hu, hu0, hu1, hq2⟩ : ∃ u, r.P s (4 + p) = u ∧ 0 < u ∧ u < 100 ∧ (u - 1).tdiv 2 = g := ⟨_, rfl, by omega, by have := EF.out; omega, by
          rcases g3 with ⟨_, h⟩ | ⟨_, h⟩
          · rw [h]; exact half_enc g false
          · rw [h]; exact half_enc g true⟩
        have neu : ¬ u = 0 := by omega
        rw [hu] at c2
        clear g3 hu
        rw [HM.out.aq 0 (by omega) (by omega)] at k2
        rw [HM.out.aq 1 (by omega) (by omega)] at k3
        rw [HM.out.aq 2 (by omega) (by omega)] at k4
        have D1 := I.good.head d h2
        have D2 := I.good.cnt d h2
        have D0 := I.good.duct d h2
        obtain ⟨h, hh⟩ : ∃ h : Nat, K.D d 0 = h := ⟨(K.D d 0).toNat, by omega⟩
        obtain ⟨q, hhq⟩ : ∃ q : Nat, K.D d 1 = q := ⟨(K.D d 1).toNat, by omega⟩
        obtain ⟨c, hc⟩ : ∃ c : Nat, K.D d 2 = c := ⟨(K.D d 2).toNat, by omega⟩
        have c5 := HM.out.rg d 0 hd' (by omega)
        have c6 := HM.out.rg d 1 hd' (by omega)
        have c7 := HM.out.rg d 2 hd' (by omega)
        rw [HU.out.q d 0 h2 (by omega), hh] at c5
        rw [HU.out.q d 1 h2 (by omega), hhq] at c6
        rw [HU.out.q d 2 h2 (by omega), hc] at c7
        have hh' : h < r.nF := by have := EF.out; omega
        have hq4 : q < 4 := by omega
        have hc4 : c ≤ 4 := by omega
        have m1 : (0 : Int) ≤ (d : Int) := by omega
        have m2 : (d : Int) < (r.nD : Int) := by omega
        have o1 : (0 : Int) ≤ (g : Int) := by omega
        have o2 : (g : Int) < (r.nF : Int) := by omega
        have o3 : (0 : Int) ≤ (h : Int) := by omega
        have o4 : (h : Int) < (r.nF : Int) := by omega
        have HI : Hid (K.D d 3 = K.ends d false) := I.rds d h2
        have Hfile : Hid (K.file s x = d ∧ K.end s x = true ∧ K.page s p = g ∧ K.D d 0 = h ∧ K.D d 1 = q ∧ K.D d 2 = c) := ⟨h1, he, g1, hh, hhq, hc⟩
        have CL : K.ends d false ≤ 24 := I.bounds false
        clear he hm D0 D1 D2 hh hhq hc
        go_wp2_with fail
        refine (ends_rep HM.out HU.out I.good (d := d) (by omega) false).mono ?_
        rintro e w1 ⟨rfl, rfl⟩
        have E0 : ∀ o, (if K.D d 3 = 0 then (⟨K, 0, 13⟩ : Out) else if K.D d 2 = 4 then ⟨K, 0, 11⟩ else ⟨(K.setF h (2 + ((q + c) % 4)) (K.F g (2 + j))).setD d 2 (c + 1), 0, 0⟩) = o → kWrite K s x p j = o := fun o ho => by
          obtain ⟨f1, f2, f3, f4, f5, f6⟩ := Hfile.out
          unfold kWrite
          rw [if_neg (by rw [f1, f2]; simp), if_neg (by omega), f1, Int.toNat_natCast, f3, Int.toNat_natCast, f4, Int.toNat_natCast, f5, f6, ← ho, f6]
          have : (((q : Int) + (c : Int)) % 4).toNat = (q + c) % 4 := by omega
          rw [this]
        by_cases hz : K.ends d false = 0
        · have E : Hid (kWrite K s x p j = ⟨K, 0, 13⟩) := E0 _ (by rw [if_pos (by rw [HI.out, hz]; rfl)])
          rw [hz]
          clear E0 hz
          go_wp2
          go_ret2
          exact REnds.mk E HM.out HU.out (RKeeps.refl _)
        · have ez : (((K.ends d false : Nat) : Int) == 0) = false := by simp; omega
          by_cases h4 : c = 4
          · have E : Hid (kWrite K s x p j = ⟨K, 0, 11⟩) := E0 _ (by rw [if_neg (by rw [HI.out]; omega), if_pos (by rw [Hfile.out.2.2.2.2.2, h4]; rfl)])
            subst h4
            clear E0 hz
            generalize K.ends d false = en at *
            go_wp2
            go_ret2
            exact REnds.mk E HM.out HU.out (RKeeps.refl _)
          · have E : Hid (kWrite K s x p j = ⟨(K.setF h (2 + ((q + c) % 4)) (K.F g (2 + j))).setD d 2 (c + 1), 0, 0⟩) := E0 _ (by rw [if_neg (by rw [HI.out]; omega), if_neg (by rw [Hfile.out.2.2.2.2.2]; omega)])
            have e4 : ((c : Int) == 4) = false := by simp; omega
            obtain ⟨y, hy⟩ : ∃ y, r.W g j = y := ⟨_, rfl⟩
            have HY : Hid (K.F g (2 + j) = y) := by unfold Hid; rw [← hy, HU.out.w g j g2 hj (Or.inl hk)]
            have cg := HM.out.wd g j hg' hj
            rw [hy] at cg
            obtain ⟨rr, hrr⟩ : ∃ rr, rr = (q + c) % 4 := ⟨_, rfl⟩
            have HRR : Hid (rr = (q + c) % 4) := hrr
            have r4 : rr < 4 := by omega
            have a1 : IntKind.i64.wrap ((q : Int) + (c : Int)) = (q : Int) + (c : Int) := IntWalk.i64_in _ (by omega)
            have a2 : ((q : Int) + (c : Int)).tmod 4 = (rr : Int) := by rw [Int.tmod_eq_emod_of_nonneg (by omega)]; omega
            have a3 : ((q : Int) + (c : Int)) % 4 = (rr : Int) := by omega
            have b5 : (0 : Int) ≤ (rr : Int) := by omega
            have b6 : (rr : Int) < 4 := by omega
            have cs := HM.out.wd h rr hh' r4
            have zw := HM.out.zw
            have zq := fun o => HM.out.zq 2 o (by omega) (show 0 < r.nD by omega)
            have n1 := HM.out.bw
            have n2 := HM.out.wq 1 (by omega)
            have n3 := HM.out.wq 2 (by omega)
            have n4 := HM.out.bq 2 (by omega)
            have n5 := Ne.symm n1
            have n6 := Ne.symm n2
            have n7 := Ne.symm n3
            have n8 := Ne.symm n4
            clear E0 hz hrr hy
            generalize K.ends d false = en at *
            go_wp2_with fail
            go_region_held3 (fun w' => w'.cell? ⟨B.b, 0, none⟩ = some (.slice (some ⟨B.bw, 0, none⟩) r.nF B.cw) ∧ w'.cell? ⟨B.b, 3, none⟩ = some (.slice (some ⟨B.bq 1, 0, none⟩) r.nD (B.cq 1)) ∧ w'.cell? ⟨B.b, 4, none⟩ = some (.slice (some ⟨B.bq 2, 0, none⟩) r.nD (B.cq 2)) ∧ w'.cell? ⟨B.bq 1, d, none⟩ = some (.int .i64 q) ∧ w'.cell? ⟨B.bq 2, d, none⟩ = some (.int .i64 c) ∧ w'.cell? ⟨B.bw, g * 4 + j, none⟩ = some (.int .i64 y)) ((repeat' apply And.intro) <;> (first | (go_keep; done) | (refine keep_same ?_; go_keep) | (refine keep_same_drew ?_; go_keep))) (fail)
            go_wp2
            go_ret2
            refine REnds.mk E ((HM.out.drew.setW (i := h) (c := rr) (o := h * 4 + rr) hh' r4 rfl y).setR (d := d) (q := 2) hd' (by omega) ((c : Int) + 1)) ?_ (((RKeeps.refl _).drew.setW _ _).setR (q := 2) (by omega) _ _)
            rw [← HRR.out, HY.out]
            exact (HU.out.setWord h rr y r4).setR d 2 _ (by omega)
end
end Go.Proofs.YtcgabodkegcpgaaGreatDoor
