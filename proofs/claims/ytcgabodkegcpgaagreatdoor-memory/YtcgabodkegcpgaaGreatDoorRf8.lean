/- The reference's Shut, Close, Dup and Pipe. -/
import Derived.Test.YtcgabodkegcpgaaGreatDoorRf7
import Derived.Test.YtcgabodkegcpgaaGreatDoorRfd
namespace Go.Proofs.YtcgabodkegcpgaaGreatDoor
open Go.RowKit
set_option linter.unusedVariables false
set_option linter.unusedSimpArgs false
attribute [local go_sem ↓] Go.wp_at_zero Go.wp_at_succ

theorem count_low (K : Ker) (d : Nat) (b : Bool) (m : Int) (i q : Nat) (hq : q < 3) : (K.count d b m).D i q = K.D i q := by
  cases b <;> exact upd_other _ _ _ _ _ _ (by omega)
set_option maxRecDepth 100000 in
set_option maxHeartbeats 2000000 in
theorem rel_close {K : Ker} {r : Rk} (U : Rel K r) (I : Inv K) (N : Neat K) (E : Ended K) {s x : Nat} (hs : s < K.nS) (hx : x < 4) (hf : K.file s x ≠ -1) :
    Rel (K.closeFile s x) ((r.setP s (8 + x) 0).swept (K.setFile s x (-1) false) r.nD) := by
  have hF := I.good.file s x hs hx
  obtain ⟨d, hd⟩ : ∃ d : Nat, K.file s x = d := ⟨(K.file s x).toNat, by omega⟩
  have hdn : d < K.nD := by omega
  have U1 : Rel ((K.setFile s x (-1) false).count d (K.end s x) (-1)) (r.setP s (8 + x) 0) := by
    have := (U.setFile s x (-1) false hx).count d (K.end s x) (-1)
    rw [encP_none] at this; exact this
  have I1 := inv_close1 I hs hx hd
  have EN : ∀ i b', ((K.setFile s x (-1) false).count d (K.end s x) (-1)).ends i b' = (K.setFile s x (-1) false).ends i b' := fun i b' => ends_count _ _ _ _ _ _
  have D34 : ∀ i, i ≠ d → ((K.setFile s x (-1) false).count d (K.end s x) (-1)).D i 3 = K.D i 3 ∧ ((K.setFile s x (-1) false).count d (K.end s x) (-1)).D i 4 = K.D i 4 := fun i hi => by
    have c := count_D (K.setFile s x (-1) false) d (K.end s x) (-1) i
    rw [c.1, c.2, if_neg (by omega), if_neg (by omega)]; exact ⟨rfl, rfl⟩
  have D02 : ∀ i q, q < 3 → ((K.setFile s x (-1) false).count d (K.end s x) (-1)).D i q = K.D i q := fun i q hq => count_low _ _ _ _ _ _ hq
  have sz := count_sizes (K.setFile s x (-1) false) d (K.end s x) (-1)
  have zD : ((K.setFile s x (-1) false).count d (K.end s x) (-1)).nD = K.nD := sz.2.2.1
  unfold Ker.closeFile
  rw [hd, Int.toNat_natCast]
  show Rel (if ((K.setFile s x (-1) false).count d (K.end s x) (-1)).D d 3 = 0 ∧ ((K.setFile s x (-1) false).count d (K.end s x) (-1)).D d 4 = 0 then (((K.setFile s x (-1) false).count d (K.end s x) (-1)).become (((K.setFile s x (-1) false).count d (K.end s x) (-1)).D d 0).toNat 0 (-1)).noDuct d (-1) else (K.setFile s x (-1) false).count d (K.end s x) (-1)) _
  generalize (K.setFile s x (-1) false).count d (K.end s x) (-1) = K1 at *
  have ZZ : ∀ i, i < K.nD → (((K.setFile s x (-1) false).ends i false = 0 ∧ (K.setFile s x (-1) false).ends i true = 0) ↔ (K1.D i 3 = 0 ∧ K1.D i 4 = 0)) := fun i hi => by
    rw [← EN, ← EN, I1.rds i (by omega), I1.wts i (by omega)]
    constructor
    · intro h; rw [h.1, h.2]; exact ⟨rfl, rfl⟩
    · intro h; exact ⟨by omega, by omega⟩
  have hnD : r.nD = K.nD := U.d
  have RR : ∀ e q, e < K.nD → q < 3 → ((r.setP s (8 + x) 0).swept (K.setFile s x (-1) false) r.nD).R e q = if K1.D e 3 = 0 ∧ K1.D e 4 = 0 then (if q = 0 then -1 else 0) else K1.D e q := fun e q he hq => by
    show (if e < r.nD ∧ (K.setFile s x (-1) false).ends e false = 0 ∧ (K.setFile s x (-1) false).ends e true = 0 then (if q = 0 then (-1 : Int) else 0) else r.R e q) = _
    by_cases h : K1.D e 3 = 0 ∧ K1.D e 4 = 0
    · rw [if_pos h, if_pos ⟨by omega, (ZZ e he).2 h⟩]
    · rw [if_neg h, if_neg (fun h' => h ((ZZ e he).1 h'.2))]
      have := U1.q e q (by omega) hq
      exact this
  have OT : ∀ e q, e < K.nD → e ≠ d → q < 3 → (if K1.D e 3 = 0 ∧ K1.D e 4 = 0 then (if q = 0 then (-1 : Int) else 0) else K1.D e q) = K1.D e q := fun e q he hne hq => by
    by_cases h : K1.D e 3 = 0 ∧ K1.D e 4 = 0
    · rw [if_pos h]
      rw [(D34 e hne).1, (D34 e hne).2] at h
      have h0 : K.D e 0 = -1 := by
        rcases I.good.duct e he with k | k
        · exact k
        · exact absurd h (E.h e he k.1)
      have := N.duc e he h0
      rw [D02 e q hq]
      obtain rfl | rfl | rfl : q = 0 ∨ q = 1 ∨ q = 2 := by omega
      · simp [h0]
      · simp [this.1]
      · simp [this.2]
    · rw [if_neg h]
  generalize hr' : (r.setP s (8 + x) 0).swept (K.setFile s x (-1) false) r.nD = r' at *
  have r1 : r'.nF = (r.setP s (8 + x) 0).nF ∧ r'.nS = (r.setP s (8 + x) 0).nS ∧ r'.nD = (r.setP s (8 + x) 0).nD ∧ r'.P = (r.setP s (8 + x) 0).P ∧ r'.W = (r.setP s (8 + x) 0).W := by rw [← hr']; exact ⟨rfl, rfl, rfl, rfl, rfl⟩
  generalize r.setP s (8 + x) 0 = r0 at *
  clear hr'
  split
  · rename_i hz
    have U2 := U1.frees (K1.D d 0).toNat 0 (-1) (by omega)
    have e0 := (D_become K1 (K1.D d 0).toNat 0 (-1)).1
    have z0 := (D_become K1 (K1.D d 0).toNat 0 (-1)).2
    generalize K1.become (K1.D d 0).toNat 0 (-1) = K2 at *
    refine ⟨r1.1.trans U2.f, r1.2.1.trans U2.s, r1.2.2.1.trans U2.d, fun i c hi hc => ?_, fun g j hg hj hk => ?_, fun e q he hq => ?_⟩
    · rw [r1.2.2.2.1]; exact U2.p i c hi hc
    · rw [r1.2.2.2.2]; exact U2.w g j hg hj hk
    · have he' : e < K.nD := by have : e < K2.nD := he; omega
      rw [RR e q he' hq, noDuct_D]
      by_cases k : e = d
      · subst k
        rw [if_pos hz, if_pos (show e = e ∧ q < 5 from ⟨rfl, by omega⟩)]
      · rw [OT e q he' k hq, if_neg (by omega), e0]
  · rename_i hz
    refine ⟨r1.1.trans U1.f, r1.2.1.trans U1.s, r1.2.2.1.trans U1.d, fun i c hi hc => ?_, fun g j hg hj hk => ?_, fun e q he hq => ?_⟩
    · rw [r1.2.2.2.1]; exact U1.p i c hi hc
    · rw [r1.2.2.2.2]; exact U1.w g j hg hj hk
    · rw [RR e q (by omega) hq]
      by_cases k : e = d
      · subst k; rw [if_neg hz]
      · exact OT e q (by omega) k hq

section
variable {w : World} {B : RB} {r : Rk} {K : Ker}
theorem swept_close (M : RMem w B r) (U : Rel K r) (I : Inv K) {s x : Nat} (hs : s < K.nS) (hx : x < 4) {o : Nat} (ho : o = s * 12 + 8 + x) :
    Calls Tryz.prog 79 #[.pointer (some ⟨B.b, 0, none⟩)] (w.setCell ⟨B.bp, o, none⟩ (.int .i64 0)) fun e w' => e = .returned (.tuple #[]) ∧ RMem w' B ((r.setP s (8 + x) 0).swept (K.setFile s x (-1) false) r.nD) ∧ RKeeps B w w' := by
  have M1 : RMem (w.setCell ⟨B.bp, o, none⟩ (.int .i64 0)) B (r.setP s (8 + x) 0) := M.setP (i := s) (c := 8 + x) (o := o) (by have := U.s; omega) (by omega) (by omega) 0
  have U1 := U.setFile s x (-1) false hx
  rw [encP_none] at U1
  refine (swept_rep (K := K.setFile s x (-1) false) M1 U.s (fun i y hi hy => U1.file hi hy) (fun i y hi hy => ?_)).mono ?_
  · rw [setFile_file K s x (-1) false i y hy hx]
    split
    · exact Or.inl rfl
    · rcases I.good.file i y hi hy with h | h
      · exact Or.inl h
      · exact Or.inr h.1
  · rintro e w' ⟨rfl, h1, h2⟩
    exact ⟨rfl, h1, ((RKeeps.refl w).setP _ _).trans h2⟩
set_option maxRecDepth 100000 in
set_option maxHeartbeats 2000000 in
theorem files_close (M : RMem w B r) (U : Rel K r) (I : Inv K) (N : Neat K) (E' : Ended K) {s x : Nat} (y z : Int) (hs : s < K.nS) (hx : x < 4) :
    Calls Tryz.prog 43 #[.pointer (some ⟨B.b, 0, none⟩), .int .i64 s, .int .i64 15, .int .i64 x, .int .i64 y, .int .i64 z] w (REnds B w (kClose K s x)) := by
  have HM : Hid (RMem w B r) := M
  have HU : Hid (Rel K r) := U
  have k1 := M.k1
  have hs' : s < r.nS := by have := U.s; omega
  have l1 : (0 : Int) ≤ (s : Int) := by omega
  have l2 : (s : Int) < (r.nS : Int) := by omega
  have x1 : (0 : Int) ≤ (x : Int) := by omega
  have x2 : (x : Int) < 4 := by omega
  have c1 : w.cell? ⟨B.bp, s * 12 + 8 + x, none⟩ = some (.int .i64 (r.P s (8 + x))) := by rw [Nat.add_assoc]; exact M.pr s (8 + x) hs' (by omega)
  have zp := M.zp
  have hD : K.nD ≤ 4 := by have := M.hD; have := U.d; omega
  clear M U
  go_enter Tryz.func43, Tryz.ntmps43
  rcases file_cases I.good HU.out hs hx hD with ⟨h1, h2⟩ | ⟨n, h1, h2, h3, h4, h5, h6⟩
  · have E : Hid (kClose K s x = ⟨K, 0, 8⟩) := by unfold kClose Hid; rw [if_pos h1]
    rw [h2] at c1
    go_wp2
    go_ret2
    exact REnds.mk E HM.out HU.out (RKeeps.refl _)
  · have E : Hid (kClose K s x = ⟨K.closeFile s x, 0, 0⟩) := by unfold kClose Hid; rw [if_neg (by omega)]
    obtain ⟨v, hv⟩ : ∃ v, r.P s (8 + x) = v := ⟨_, rfl⟩
    rw [hv] at c1 h5 h6
    have ne : ¬ v = 0 := by omega
    have Hf : Hid (K.file s x ≠ -1) := by unfold Hid; omega
    clear h4 hv
    go_wp2_with fail
    refine (swept_close HM.out HU.out I hs hx (by omega)).mono ?_
    rintro e w1 ⟨rfl, m1, p1⟩
    go_wp2
    go_ret2
    exact REnds.mk E m1 (rel_close HU.out I N E' hs hx Hf.out) p1
set_option maxRecDepth 100000 in
set_option maxHeartbeats 2000000 in
theorem undone_shut (M : RMem w B r) (U : Rel K r) (I : Inv K) (N : Neat K) (E' : Ended K) {s c x : Nat} (hc : c < K.nS) (hx : x < 4) (he : K.still s c = true) :
    Calls Tryz.prog 42 #[.pointer (some ⟨B.b, 0, none⟩), .int .i64 11, .int .i64 c, .int .i64 x] w (REnds B w (kShut K s c x)) := by
  have HM : Hid (RMem w B r) := M
  have HU : Hid (Rel K r) := U
  have k1 := M.k1
  have hs' : c < r.nS := by have := U.s; omega
  have l1 : (0 : Int) ≤ (c : Int) := by omega
  have l2 : (c : Int) < (r.nS : Int) := by omega
  have x1 : (0 : Int) ≤ (x : Int) := by omega
  have x2 : (x : Int) < 4 := by omega
  have c1 : w.cell? ⟨B.bp, c * 12 + 8 + x, none⟩ = some (.int .i64 (r.P c (8 + x))) := by rw [Nat.add_assoc]; exact M.pr c (8 + x) hs' (by omega)
  have zp := M.zp
  have hD : K.nD ≤ 4 := by have := M.hD; have := U.d; omega
  clear M U
  go_enter Tryz.func42, Tryz.ntmps42
  rcases file_cases I.good HU.out hc hx hD with ⟨h1, h2⟩ | ⟨n, h1, h2, h3, h4, h5, h6⟩
  · have E : Hid (kShut K s c x = ⟨K, 0, 8⟩) := by unfold kShut Hid; rw [if_neg (by simp [he]), if_pos h1]
    rw [h2] at c1
    go_wp2
    go_ret2
    exact REnds.mk E HM.out HU.out (RKeeps.refl _)
  · have E : Hid (kShut K s c x = ⟨K.closeFile c x, 0, 0⟩) := by unfold kShut Hid; rw [if_neg (by simp [he]), if_neg (by omega)]
    obtain ⟨v, hv⟩ : ∃ v, r.P c (8 + x) = v := ⟨_, rfl⟩
    rw [hv] at c1 h5 h6
    have ne : ¬ v = 0 := by omega
    have Hf : Hid (K.file c x ≠ -1) := by unfold Hid; omega
    clear h4 hv
    go_wp2_with fail
    refine (swept_close HM.out HU.out I hc hx (by omega)).mono ?_
    rintro e w1 ⟨rfl, m1, p1⟩
    go_wp2
    go_ret2
    exact REnds.mk E m1 (rel_close HU.out I N E' hc hx Hf.out) p1
set_option maxRecDepth 100000 in
set_option maxHeartbeats 2000000 in
theorem files_dup (M : RMem w B r) (U : Rel K r) (I : Inv K) {s x t : Nat} (z : Int) (hs : s < K.nS) (hx : x < 4) (ht : t < 4) :
    Calls Tryz.prog 43 #[.pointer (some ⟨B.b, 0, none⟩), .int .i64 s, .int .i64 14, .int .i64 x, .int .i64 t, .int .i64 z] w (REnds B w (kDup K s x t)) := by
  have HM : Hid (RMem w B r) := M
  have HU : Hid (Rel K r) := U
  have k1 := M.k1
  have hs' : s < r.nS := by have := U.s; omega
  have l1 : (0 : Int) ≤ (s : Int) := by omega
  have l2 : (s : Int) < (r.nS : Int) := by omega
  have x1 : (0 : Int) ≤ (x : Int) := by omega
  have x2 : (x : Int) < 4 := by omega
  have t1 : (0 : Int) ≤ (t : Int) := by omega
  have t2 : (t : Int) < 4 := by omega
  have c1 : w.cell? ⟨B.bp, s * 12 + 8 + x, none⟩ = some (.int .i64 (r.P s (8 + x))) := by rw [Nat.add_assoc]; exact M.pr s (8 + x) hs' (by omega)
  have c2 : w.cell? ⟨B.bp, s * 12 + 8 + t, none⟩ = some (.int .i64 (r.P s (8 + t))) := by rw [Nat.add_assoc]; exact M.pr s (8 + t) hs' (by omega)
  have zp := M.zp
  have hD : K.nD ≤ 4 := by have := M.hD; have := U.d; omega
  clear M U
  go_enter Tryz.func43, Tryz.ntmps43
  rcases file_cases I.good HU.out hs hx hD with ⟨h1, h2⟩ | ⟨n, h1, h2, h3, h4, h5, h6⟩
  · have E : Hid (kDup K s x t = ⟨K, 0, 8⟩) := by unfold kDup Hid; rw [if_pos (Or.inl h1)]
    rw [h2] at c1
    go_wp2
    go_ret2
    exact REnds.mk E HM.out HU.out (RKeeps.refl _)
  · rcases file_cases I.good HU.out hs ht hD with ⟨g1, g2⟩ | ⟨m, g1, g2, g3, g4, g5, g6⟩
    · have E : Hid (kDup K s x t = ⟨K.openFile s t n (K.end s x), 0, 0⟩) := by unfold kDup Hid; rw [if_neg (by omega), h1, Int.toNat_natCast]
      have HV : Hid (r.P s (8 + x) = encP n (K.end s x)) := h4
      obtain ⟨v, hv⟩ : ∃ v, r.P s (8 + x) = v := ⟨_, rfl⟩
      have Hv : Hid (r.P s (8 + x) = v) := hv
      rw [hv] at c1 h5 h6
      rw [g2] at c2
      have ne : ¬ v = 0 := by omega
      have b4 : B.bp ≠ B.b := fun e => HM.out.bp e.symm
      have b5 : B.b ≠ B.bp := HM.out.bp
      clear h4 hv
      go_wp2_with fail
      go_region_held3 (fun w' => w'.cell? ⟨B.b, 1, none⟩ = some (.slice (some ⟨B.bp, 0, none⟩) r.nS B.cp) ∧ w'.cell? ⟨B.bp, s * 12 + 8 + x, none⟩ = some (.int .i64 v)) ((repeat' apply And.intro) <;> (first | (go_keep; done) | (refine keep_same ?_; go_keep) | (refine keep_same_drew ?_; go_keep))) (fail)
      go_wp2
      go_ret2
      refine REnds.mk E (HM.out.drew.setP (i := s) (c := 8 + t) (o := s * 12 + 8 + t) hs' (by omega) (by omega) v) ?_ ((RKeeps.refl _).drew.setP _ _)
      rw [← Hv.out, HV.out]
      exact HU.out.openFile s t n _ ht
    · have E : Hid (kDup K s x t = ⟨K, 0, 8⟩) := by unfold kDup Hid; rw [if_pos (Or.inr (by omega))]
      obtain ⟨v, hv⟩ : ∃ v, r.P s (8 + x) = v := ⟨_, rfl⟩
      obtain ⟨u, hu⟩ : ∃ u, r.P s (8 + t) = u := ⟨_, rfl⟩
      rw [hv] at c1 h5 h6
      rw [hu] at c2 g5 g6
      have ne : ¬ v = 0 := by omega
      clear h4 hv g4 hu
      go_wp2
      go_ret2
      exact REnds.mk E HM.out HU.out (RKeeps.refl _)
end
end Go.Proofs.YtcgabodkegcpgaaGreatDoor
