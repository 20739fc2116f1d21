/- The reference's Exit, Start and Give. -/
import Derived.Test.YtcgabodkegcpgaaGreatDoorRf4
import Derived.Test.YtcgabodkegcpgaaGreatDoorRing
namespace Go.Proofs.YtcgabodkegcpgaaGreatDoor
open Go.RowKit
set_option linter.unusedVariables false
set_option linter.unusedSimpArgs false
attribute [local go_sem ↓] Go.wp_at_zero Go.wp_at_succ

theorem keep_same_drew {W : World} {a b : Addr} {v : Value} (h : W.cell? a = some v) : (W.setCell b v).drew.cell? a = some v := keep_same h
theorem pNum_setFile (K : Ker) (s x : Nat) (d : Int) (b : Bool) (hx : x < 4) (i c : Nat) (hc : c < 12) : pNum (K.setFile s x d b) i c = if i = s ∧ c = 8 + x then encP d b else pNum K i c := by
  have S' : ∀ j, j ≠ 11 + x * 2 → (K.setFile s x d b).S i j = K.S i j := fun j hj => upd_other _ _ _ _ _ _ (by omega)
  unfold pNum
  by_cases h1 : c < 3
  · rw [if_pos h1, if_pos h1, S' c (by omega), if_neg (by omega)]
  rw [if_neg h1, if_neg h1]
  by_cases h2 : c = 3
  · rw [if_pos h2, if_pos h2, S' 19 (by omega), if_neg (by omega)]
  rw [if_neg h2, if_neg h2]
  by_cases h3 : c < 8
  · rw [if_pos h3, if_pos h3, if_neg (by omega)]
    have e1 : (K.setFile s x d b).page i (c - 4) = K.page i (c - 4) := S' _ (by omega)
    have e2 : (K.setFile s x d b).wr i (c - 4) = K.wr i (c - 4) := upd_other _ _ _ _ _ _ (by omega)
    rw [e1, e2]
  · rw [if_neg h3, if_neg h3, setFile_file K s x d b i (c - 8) (by omega) hx, setFile_end K s x d b i (c - 8) (by omega) hx]
    by_cases h : i = s ∧ c = 8 + x
    · rw [if_pos h, if_pos (by omega), if_pos (by omega)]
    · rw [if_neg h, if_neg (by omega), if_neg (by omega)]
theorem Rel.setFile {K : Ker} {r : Rk} (U : Rel K r) (s x : Nat) (d : Int) (b : Bool) (hx : x < 4) : Rel (K.setFile s x d b) (r.setP s (8 + x) (encP d b)) := by
  refine ⟨U.f, U.s, U.d, fun i c hi hc => ?_, U.w, U.q⟩
  rw [pNum_setFile K s x d b hx i c hc]
  show upd r.P s (8 + x) (encP d b) i c = _
  by_cases h : i = s ∧ c = 8 + x
  · rw [if_pos h, h.1, h.2, upd_same]
  · rw [if_neg h, upd_other _ _ _ _ _ _ h]; exact U.p i c hi hc
theorem Rel.setD34 {K : Ker} {r : Rk} (U : Rel K r) (d c : Nat) (v : Int) (hc : 3 ≤ c) : Rel (K.setD d c v) r :=
  ⟨U.f, U.s, U.d, U.p, U.w, fun e q he hq => by rw [show (K.setD d c v).D e q = K.D e q from upd_other _ _ _ _ _ _ (by omega)]; exact U.q e q he hq⟩
theorem Rel.count {K : Ker} {r : Rk} (U : Rel K r) (d : Nat) (b : Bool) (m : Int) : Rel (K.count d b m) r := by
  cases b
  · exact U.setD34 d 3 _ (by omega)
  · exact U.setD34 d 4 _ (by omega)
theorem Rel.openFile {K : Ker} {r : Rk} (U : Rel K r) (s x d : Nat) (b : Bool) (hx : x < 4) : Rel (K.openFile s x d b) (r.setP s (8 + x) (encP d b)) := (U.setFile s x d b hx).count d b 1
theorem file_cases {K : Ker} {r : Rk} (G : Good K) (U : Rel K r) {s x : Nat} (hs : s < K.nS) (hx : x < 4) (hD : K.nD ≤ 4) :
    (K.file s x = -1 ∧ r.P s (8 + x) = 0) ∨ ∃ n : Nat, K.file s x = n ∧ n < K.nD ∧ 0 ≤ K.D n 0 ∧ r.P s (8 + x) = encP n (K.end s x) ∧ 0 < r.P s (8 + x) ∧ r.P s (8 + x) < 100 := by
  have hg := G.file s x hs hx
  have hv := U.file hs hx
  by_cases h : K.file s x = -1
  · exact Or.inl ⟨h, by rw [hv, h, encP_none]⟩
  · right
    obtain ⟨n, hn⟩ : ∃ n : Nat, K.file s x = n := ⟨(K.file s x).toNat, by omega⟩
    rw [hn, Int.toNat_natCast] at hg
    rw [hn] at hv
    refine ⟨n, hn, by omega, by omega, hv, ?_, ?_⟩
    · rw [hv, encP_some]; split <;> omega
    · rw [hv, encP_some]; split <;> omega

section
variable {w : World} {B : RB} {r : Rk} {K : Ker}
set_option maxHeartbeats 2000000 in
theorem life_exit (M : RMem w B r) (U : Rel K r) {s : Nat} (a y : Int) (hs : s < K.nS) :
    Calls Tryz.prog 40 #[.pointer (some ⟨B.b, 0, none⟩), .int .i64 s, .int .i64 9, .int .i64 a, .int .i64 y] w (REnds B w (kExit K s a)) := by
  have HM : Hid (RMem w B r) := M
  have HU : Hid (Rel K r) := U
  have k1 := M.k1
  have hs' : s < r.nS := by have := U.s; omega
  have i1 : (0 : Int) ≤ (s : Int) := by omega
  have i2 : (s : Int) < (r.nS : Int) := by omega
  have hS : r.nS ≤ 6 := M.hS
  have ES : Hid (r.nS = K.nS) := U.s
  have c0 : w.cell? ⟨B.bp, s * 12, none⟩ = some (.int .i64 (r.P s 0)) := M.pr s 0 hs' (by omega)
  have c3 := M.pr s 3 hs' (by omega)
  have zp := M.zp
  have b2 := M.bp
  have b4 : B.bp ≠ B.b := fun e => b2 e.symm
  clear M U
  go_enter Tryz.func40, Tryz.ntmps40
  by_cases h0 : s = 0
  · subst h0
    have E : Hid (kExit K 0 a = ⟨K, 0, 7⟩) := by unfold kExit Hid; rw [if_pos rfl]
    go_wp2
    go_ret2
    exact REnds.mk E HM.out HU.out (RKeeps.refl _)
  · have e0 : ((s : Int) == 0) = false := by simp; omega
    obtain ⟨K2, hK2⟩ : ∃ K2, K2 = (K.setS s 0 3).setS s 19 a := ⟨_, rfl⟩
    have E : Hid (kExit K s a = ⟨K2.orphans s K.nS, 0, 0⟩) := by unfold kExit Hid; rw [if_neg h0, hK2]
    have U2 : Hid (Rel K2 ((r.setP s 0 3).setP s 3 a)) := by unfold Hid; rw [hK2]; exact (HU.out.setS s 0 3 (by omega)).setCode s a
    have Z2 : Hid (K2.nS = r.nS) := by unfold Hid; rw [hK2, ES.out]; rfl
    have M2 : Hid (RMem ((w.setCell ⟨B.bp, s * 12, none⟩ (.int .i64 3)).setCell ⟨B.bp, s * 12 + 3, none⟩ (.int .i64 a)) B ((r.setP s 0 3).setP s 3 a)) := (HM.out.setP (i := s) (c := 0) (o := s * 12) hs' (by omega) (by omega) 3).setP (i := s) (c := 3) hs' (by omega) rfl a
    have KP : Hid (RKeeps B w ((w.setCell ⟨B.bp, s * 12, none⟩ (.int .i64 3)).setCell ⟨B.bp, s * 12 + 3, none⟩ (.int .i64 a))) := ((RKeeps.refl _).setP _ _).setP _ _
    clear hK2
    go_wp2
    clear c0 c3 zp k1
    go_loopw [13] (fun i w' => ∃ (k : Nat) (r' : Rk), k ≤ r.nS ∧ i = .int .i64 k ∧ RMem w' B r' ∧ Rel (K2.orphans s k) r' ∧ RKeeps B w w' ∧ r'.nS = r.nS) (fun i _ => r.nS - (intOf i).toNat)
    case atStart => exact ⟨0, _, by omega, rfl, M2.out, U2.out, KP.out, rfl⟩
    case round =>
      obtain ⟨k, r', hk, rfl, m1, u1, p1, n1⟩ := hrel
      have HM1 : Hid (RMem wr B r') := m1
      have HU1 : Hid (Rel (K2.orphans s k) r') := u1
      have HP1 : Hid (RKeeps B w wr) := p1
      have HN1 : Hid (r'.nS = r.nS) := n1
      have k1 := m1.k1
      rw [n1] at k1
      clear m1 u1 p1 n1
      by_cases hlt : k < r.nS
      · have j1 : (0 : Int) ≤ (k : Int) := by omega
        have j2 : (k : Int) < (r.nS : Int) := by omega
        have hk' : k < r'.nS := by rw [HN1.out]; exact hlt
        have c1 := HM1.out.pr k 1 hk' (by omega)
        have hp : r'.P k 1 = (K2.orphans s k).S k 1 := HU1.out.parent (by rw [orphans_nS, Z2.out]; exact hlt)
        by_cases hps : r'.P k 1 = s
        · have HO : Hid (K2.orphans s (k + 1) = (K2.orphans s k).setS k 1 0) := by unfold Hid; rw [Ker.orphans, if_pos (by omega)]
          rw [hps] at c1
          have zp := HM1.out.zp
          clear hp hps
          go_wp2
          exact ⟨⟨k + 1, _, by omega, by go_num, HM1.out.setP (i := k) (c := 1) hk' (by omega) rfl 0, by rw [HO.out]; exact HU1.out.setS k 1 0 (by omega), HP1.out.setP _ _, HN1.out⟩, by simp [intOf]; omega⟩
        · have HO : Hid (K2.orphans s (k + 1) = K2.orphans s k) := by unfold Hid; rw [Ker.orphans, if_neg (by omega)]
          have e1 : (r'.P k 1 == (s : Int)) = false := by simpa using hps
          clear hp hps
          go_wp2
          exact ⟨⟨k + 1, r', by omega, by go_num, HM1.out, by rw [HO.out]; exact HU1.out, HP1.out, HN1.out⟩, by simp [intOf]; omega⟩
      · obtain rfl : k = r.nS := by omega
        go_wp2
        go_ret2
        exact REnds.mk E HM1.out (by rw [← ES.out]; exact HU1.out) HP1.out
set_option maxHeartbeats 2000000 in
theorem embryo_start (M : RMem w B r) (U : Rel K r) {s c : Nat} (y z : Int) (hs : s < K.nS) (hc : c < K.nS) (he : K.embryo s c = true) :
    Calls Tryz.prog 41 #[.pointer (some ⟨B.b, 0, none⟩), .int .i64 s, .int .i64 8, .int .i64 c, .int .i64 y, .int .i64 z] w (REnds B w (kStart K s c)) := by
  have HM : Hid (RMem w B r) := M
  have HU : Hid (Rel K r) := U
  have k1 := M.k1
  have hc' : c < r.nS := by have := U.s; omega
  have i1 : (0 : Int) ≤ (c : Int) := by omega
  have i2 : (c : Int) < (r.nS : Int) := by omega
  have c0 : w.cell? ⟨B.bp, c * 12, none⟩ = some (.int .i64 (r.P c 0)) := M.pr c 0 hc' (by omega)
  have zp := M.zp
  have E : Hid (kStart K s c = ⟨K.setS c 0 2, 0, 0⟩) := by unfold kStart Hid; rw [if_neg (by simp [he])]
  clear M U
  go_enter Tryz.func41, Tryz.ntmps41
  go_wp2
  go_ret2
  exact REnds.mk E (HM.out.setP (i := c) (c := 0) (o := c * 12) hc' (by omega) (by omega) 2) (HU.out.setS c 0 2 (by omega)) ((RKeeps.refl _).setP _ _)
set_option maxHeartbeats 2000000 in
theorem embryo_give (M : RMem w B r) (U : Rel K r) (G : Good K) {s c x t : Nat} (hs : s < K.nS) (hc : c < K.nS) (hx : x < 4) (ht : t < 4) (he : K.embryo s c = true) :
    Calls Tryz.prog 41 #[.pointer (some ⟨B.b, 0, none⟩), .int .i64 s, .int .i64 7, .int .i64 c, .int .i64 x, .int .i64 t] w (REnds B w (kGive K s c x t)) := by
  have HM : Hid (RMem w B r) := M
  have HU : Hid (Rel K r) := U
  have k1 := M.k1
  have hc' : c < r.nS := by have := U.s; omega
  have hs' : s < r.nS := by have := U.s; omega
  have i1 : (0 : Int) ≤ (c : Int) := by omega
  have i2 : (c : Int) < (r.nS : Int) := by omega
  have l1 : (0 : Int) ≤ (s : Int) := by omega
  have l2 : (s : Int) < (r.nS : Int) := by omega
  have x1 : (0 : Int) ≤ (x : Int) := by omega
  have x2 : (x : Int) < 4 := by omega
  have t1 : (0 : Int) ≤ (t : Int) := by omega
  have t2 : (t : Int) < 4 := by omega
  have c1 : w.cell? ⟨B.bp, s * 12 + 8 + x, none⟩ = some (.int .i64 (r.P s (8 + x))) := by rw [Nat.add_assoc]; exact M.pr s (8 + x) hs' (by omega)
  have c2 : w.cell? ⟨B.bp, c * 12 + 8 + t, none⟩ = some (.int .i64 (r.P c (8 + t))) := by rw [Nat.add_assoc]; exact M.pr c (8 + t) hc' (by omega)
  have zp := M.zp
  have hD : K.nD ≤ 4 := by have := M.hD; have := U.d; omega
  clear M U
  go_enter Tryz.func41, Tryz.ntmps41
  rcases file_cases G HU.out hs hx hD with ⟨h1, h2⟩ | ⟨n, h1, h2, h3, h4, h5, h6⟩
  · have E : Hid (kGive K s c x t = ⟨K, 0, 8⟩) := by unfold kGive Hid; rw [if_neg (by simp [he]), if_pos (Or.inl h1)]
    rw [h2] at c1
    go_wp2
    go_ret2
    exact REnds.mk E HM.out HU.out (RKeeps.refl _)
  · rcases file_cases G HU.out hc ht hD with ⟨g1, g2⟩ | ⟨m, g1, g2, g3, g4, g5, g6⟩
    · have E : Hid (kGive K s c x t = ⟨K.openFile c t n (K.end s x), 0, 0⟩) := by unfold kGive Hid; rw [if_neg (by simp [he]), if_neg (by omega), h1, Int.toNat_natCast]
      have HV : Hid (r.P s (8 + x) = encP n (K.end s x)) := h4
      obtain ⟨v, hv⟩ : ∃ v, r.P s (8 + x) = v := ⟨_, rfl⟩
      have Hv : Hid (r.P s (8 + x) = v) := hv
      rw [hv] at c1 h5 h6
      rw [g2] at c2
      have ne : ¬ v = 0 := by omega
      have b4 : B.bp ≠ B.b := fun e => HM.out.bp e.symm
      have b5 : B.b ≠ B.bp := HM.out.bp
      clear h4 hv
      go_wp2_with fail
      go_region_held3 (fun w' => w'.cell? ⟨B.b, 1, none⟩ = some (.slice (some ⟨B.bp, 0, none⟩) r.nS B.cp) ∧ w'.cell? ⟨B.bp, s * 12 + 8 + x, none⟩ = some (.int .i64 v)) ((repeat' apply And.intro) <;> (first | (go_keep; done) | (refine keep_same ?_; go_keep) | (refine keep_same_drew ?_; go_keep))) (fail)
      go_wp2
      go_ret2
      refine REnds.mk E (HM.out.drew.setP (i := c) (c := 8 + t) (o := c * 12 + 8 + t) hc' (by omega) (by omega) v) ?_ ((RKeeps.refl _).drew.setP _ _)
      rw [← Hv.out, HV.out]
      exact HU.out.openFile c t n _ ht
    · have E : Hid (kGive K s c x t = ⟨K, 0, 8⟩) := by unfold kGive Hid; rw [if_neg (by simp [he]), if_pos (Or.inr (by omega))]
      obtain ⟨v, hv⟩ : ∃ v, r.P s (8 + x) = v := ⟨_, rfl⟩
      obtain ⟨u, hu⟩ : ∃ u, r.P c (8 + t) = u := ⟨_, rfl⟩
      rw [hv] at c1 h5 h6
      rw [hu] at c2 g5 g6
      have ne : ¬ v = 0 := by omega
      clear h4 hv g4 hu
      go_wp2
      go_ret2
      exact REnds.mk E HM.out HU.out (RKeeps.refl _)
end
end Go.Proofs.YtcgabodkegcpgaaGreatDoor
