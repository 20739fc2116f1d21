/- Plain facts on the kernel's numbers: Pipe, Close, Shut and Reap keep the books good; so does every call. -/
import Derived.Test.YtcgabodkegcpgaaDoorInv3
namespace Go.Proofs.YtcgabodkegcpgaaDoor
set_option linter.unusedVariables false

theorem ends_none {K : Ker} (d : Nat) (b : Bool) (h : ∀ i x, i < K.nS → x < 4 → K.file i x ≠ d) : K.ends d b = 0 := by
  unfold Ker.ends
  have : ∀ n, n ≤ K.nS * 4 → countTo (K.isEnd d b) n = 0 := fun n => by
    induction n with
    | zero => intro _; rfl
    | succ n ih =>
      intro hn
      unfold countTo
      rw [ih (by omega)]
      have : K.isEnd d b n = false := by
        unfold Ker.isEnd
        have := h (n / 4) (n % 4) (by omega) (by omega)
        simp [this]
      rw [this]; simp
  exact this _ (Nat.le_refl _)
theorem ends_zero {K : Ker} {d : Nat} (h3 : K.ends d false = 0) (h4 : K.ends d true = 0) {i x : Nat} (hi : i < K.nS) (hx : x < 4) : K.file i x ≠ d := by
  intro hf
  have q1 : (i * 4 + x) / 4 = i := by omega
  have q2 : (i * 4 + x) % 4 = x := by omega
  cases hb : K.end i x
  · have := countTo_zero (p := K.isEnd d false) (K.nS * 4) h3 (i * 4 + x) (by omega)
    unfold Ker.isEnd at this
    rw [q1, q2, hf, hb] at this
    simp at this
  · have := countTo_zero (p := K.isEnd d true) (K.nS * 4) h4 (i * 4 + x) (by omega)
    unfold Ker.isEnd at this
    rw [q1, q2, hf, hb] at this
    simp at this

theorem noDuct_D (K : Ker) (d : Nat) (f : Int) (i c : Nat) : (K.noDuct d f).D i c = if i = d ∧ c < 5 then (if c = 0 then f else 0) else K.D i c := by
  unfold Ker.noDuct Ker.setD upd
  by_cases e : i = d
  · subst e
    by_cases h : c < 5
    · obtain rfl | rfl | rfl | rfl | rfl : c = 0 ∨ c = 1 ∨ c = 2 ∨ c = 3 ∨ c = 4 := by omega
      all_goals simp
    · rw [if_neg (by omega)]
      have : c ≠ 0 ∧ c ≠ 1 ∧ c ≠ 2 ∧ c ≠ 3 ∧ c ≠ 4 := by omega
      simp [this]
  · simp [e]

/-- A pipe that nobody has a file of is set anew: with a frame, or without. -/
theorem inv_noDuct_key {K : Ker} (I : Inv K) {d : Nat} (f : Int) (hd : d < K.nD) (hf : f = -1 ∨ (0 ≤ f ∧ f < K.nF)) (hn : ∀ i x, i < K.nS → x < 4 → K.file i x ≠ d) (F' : Nat → Nat → Int) (D' : Nat → Nat → Int)
    (hD : ∀ i c, D' i c = if i = d ∧ c < 5 then (if c = 0 then f else 0) else K.D i c) : Inv { K with F := F', D := D' } := by
  have e3 := ends_none d false hn
  have e4 := ends_none d true hn
  have ends' : ∀ d' b, Ker.ends { K with F := F', D := D' } d' b = K.ends d' b := fun _ _ => rfl
  refine ⟨⟨I.good.page, I.good.wr, ?_, ?_, ?_, ?_, ?_, ?_, I.good.tab⟩, I.hS, ?_, ?_⟩
  · intro i x hi hx
    have hne := hn i x hi hx
    rcases I.good.file i x hi hx with k | ⟨k1, k2, k3⟩
    · exact Or.inl k
    · refine Or.inr ⟨k1, k2, ?_⟩
      show 0 ≤ D' (K.file i x).toNat 0
      rw [hD, if_neg (by omega)]
      exact k3
  · intro i hi
    show D' i 0 = -1 ∨ (0 ≤ D' i 0 ∧ D' i 0 < K.nF)
    rw [hD]; have := I.good.duct i hi; split
    · exact hf
    · exact this
  · intro i hi; show 0 ≤ D' i 1 ∧ D' i 1 < 4; rw [hD]; have := I.good.head i hi
    split
    · simp
    · exact this
  · intro i hi; show 0 ≤ D' i 2 ∧ D' i 2 ≤ 4; rw [hD]; have := I.good.cnt i hi
    split
    · simp
    · exact this
  · intro i hi; show 0 ≤ D' i 3 ∧ D' i 3 ≤ 24; rw [hD]; have := I.good.rd i hi
    split
    · simp
    · exact this
  · intro i hi; show 0 ≤ D' i 4 ∧ D' i 4 ≤ 24; rw [hD]; have := I.good.wt i hi
    split
    · simp
    · exact this
  · intro i hi
    show D' i 3 = _
    rw [hD, ends']
    have := I.rds i hi
    split
    · rename_i e; rw [e.1, e3]; rfl
    · exact this
  · intro i hi
    show D' i 4 = _
    rw [hD, ends']
    have := I.wts i hi
    split
    · rename_i e; rw [e.1, e4]; rfl
    · exact this
theorem inv_noDuct {K : Ker} (I : Inv K) {d : Nat} (f : Int) (hd : d < K.nD) (hf : f = -1 ∨ (0 ≤ f ∧ f < K.nF)) (hn : ∀ i x, i < K.nS → x < 4 → K.file i x ≠ d) : Inv (K.noDuct d f) :=
  inv_noDuct_key I f hd hf hn K.F (K.noDuct d f).D (noDuct_D K d f)

set_option maxHeartbeats 1000000 in
theorem inv_pipe {K : Ker} (I : Inv K) {s n f x : Nat} (hs : s < K.nS) (hn : n < K.nD) (hf : f < K.nF) (hx : x < 4) : Inv (kPipe K s n f x).K := by
  unfold kPipe
  split
  · exact I
  rename_i h0
  split
  · exact I
  split
  · exact I
  rename_i h1 h
  have I0 : Inv (K.become f 3 (-1)) := inv_become I f 3 (-1)
  have n0 : n < (K.become f 3 (-1)).nD := hn
  have f0 : f < (K.become f 3 (-1)).nF := hf
  have s0 : s < (K.become f 3 (-1)).nS := hs
  have x3 : x < 3 := by omega
  have g1 : (K.become f 3 (-1)).file s x = -1 := by show K.file s x = -1; omega
  have g2 : (K.become f 3 (-1)).file s (x + 1) = -1 := by show K.file s (x + 1) = -1; omega
  have d0 : (K.become f 3 (-1)).D n 0 = -1 := by show K.D n 0 = -1; omega
  show Inv ((((K.become f 3 (-1)).noDuct n f).openFile s x n false).openFile s (x + 1) n true)
  clear h0 h1 h
  generalize K.become f 3 (-1) = K0 at *
  have I1 : Inv (K0.noDuct n f) := inv_noDuct I0 f n0 (Or.inr ⟨by omega, by omega⟩) (fun i y hi hy => by
    rcases I0.good.file i y hi hy with k | ⟨k1, k2, k3⟩
    · omega
    · intro e; rw [e, Int.toNat_natCast, d0] at k3; omega)
  have m0 : n < (K0.noDuct n f).nD := n0
  have m1 : s < (K0.noDuct n f).nS := s0
  have m2 : (K0.noDuct n f).file s x = -1 := g1
  have m3 : (K0.noDuct n f).file s (x + 1) = -1 := g2
  have m4 : 0 ≤ (K0.noDuct n f).D n 0 := by rw [noDuct_D]; simp
  generalize K0.noDuct n f = K1 at *
  have I2 : Inv (K1.openFile s x n false) := inv_openFile I1 false m1 (by omega) m0 m4 m2
  refine inv_openFile I2 true m1 (by omega) m0 ?_ ?_
  · show 0 ≤ upd K1.D n 3 _ n 0
    rw [upd_other _ _ _ _ _ _ (by omega)]; exact m4
  · show (K1.setFile s x n false).file s (x + 1) = -1
    rw [setFile_file K1 s x n false s (x + 1) (by omega) (by omega), if_neg (by omega)]; exact m3

set_option maxHeartbeats 1000000 in
theorem inv_closeFile {K : Ker} (I : Inv K) {s x : Nat} (hs : s < K.nS) (hx : x < 4) (hf : K.file s x ≠ -1) : Inv (K.closeFile s x) := by
  have hF := I.good.file s x hs hx
  obtain ⟨d, hd⟩ : ∃ d : Nat, K.file s x = d := ⟨(K.file s x).toNat, by omega⟩
  have hdn : d < K.nD := by omega
  rw [hd, Int.toNat_natCast] at hF
  unfold Ker.closeFile
  rw [hd, Int.toNat_natCast]
  generalize hb : K.end s x = b
  show Inv (if ((K.setFile s x (-1) false).count d b (-1)).D d 3 = 0 ∧ ((K.setFile s x (-1) false).count d b (-1)).D d 4 = 0 then (((K.setFile s x (-1) false).count d b (-1)).become (((K.setFile s x (-1) false).count d b (-1)).D d 0).toNat 0 (-1)).noDuct d (-1) else (K.setFile s x (-1) false).count d b (-1))
  have sz := count_sizes (K.setFile s x (-1) false) d b (-1)
  have E : ∀ d' b', ((K.setFile s x (-1) false).count d b (-1)).ends d' b' + (if d = d' ∧ b = b' then 1 else 0) = K.ends d' b' := fun d' b' => by
    rw [ends_count]
    have h := ends_setFile K s x (-1) false hs hx d' b'
    rw [hd, hb, if_neg (show ¬ ((-1 : Int) = (d' : Int) ∧ false = b') by omega)] at h
    have e : ((d : Int) = (d' : Int) ∧ b = b') ↔ (d = d' ∧ b = b') := ⟨fun k => ⟨by omega, k.2⟩, fun k => ⟨by omega, k.2⟩⟩
    simp only [e] at h
    omega
  have D3 : ∀ i, ((K.setFile s x (-1) false).count d b (-1)).D i 3 = if i = d ∧ b = false then K.D d 3 + -1 else K.D i 3 := fun i => (count_D (K.setFile s x (-1) false) d b (-1) i).1
  have D4 : ∀ i, ((K.setFile s x (-1) false).count d b (-1)).D i 4 = if i = d ∧ b = true then K.D d 4 + -1 else K.D i 4 := fun i => (count_D (K.setFile s x (-1) false) d b (-1) i).2
  have r3 := I.rds d hdn
  have r4 := I.wts d hdn
  have b3 := I.bounds (d := d) false
  have b4 := I.bounds (d := d) true
  have Ed := E d b
  rw [if_pos ⟨rfl, rfl⟩] at Ed
  have G : Good ((K.setFile s x (-1) false).count d b (-1)) := by
    have G1 : Good (K.setFile s x (-1) false) := good_setFile I.good s x (-1) false hx (Or.inl rfl)
    cases b
    · exact good_setD G1 d 3 (K.D d 3 + -1) (by omega)
    · exact good_setD G1 d 4 (K.D d 4 + -1) (by omega)
  have I1 : Inv ((K.setFile s x (-1) false).count d b (-1)) := by
    refine ⟨G, by rw [sz.2.1]; exact I.hS, fun d' hd' => ?_, fun d' hd' => ?_⟩
    · rw [sz.2.2.1] at hd'
      have := E d' false
      have h' := I.rds d' hd'
      rw [D3 d']
      by_cases e : d' = d ∧ b = false
      · obtain ⟨rfl, rfl⟩ := e
        rw [if_pos ⟨rfl, rfl⟩]; rw [if_pos ⟨rfl, rfl⟩] at this; omega
      · rw [if_neg e]; rw [if_neg (by intro h; exact e ⟨h.1.symm, h.2⟩)] at this; omega
    · rw [sz.2.2.1] at hd'
      have := E d' true
      have h' := I.wts d' hd'
      rw [D4 d']
      by_cases e : d' = d ∧ b = true
      · obtain ⟨rfl, rfl⟩ := e
        rw [if_pos ⟨rfl, rfl⟩]; rw [if_pos ⟨rfl, rfl⟩] at this; omega
      · rw [if_neg e]; rw [if_neg (by intro h; exact e ⟨h.1.symm, h.2⟩)] at this; omega
  have hd1 : d < ((K.setFile s x (-1) false).count d b (-1)).nD := by rw [sz.2.2.1]; exact hdn
  clear E D3 D4 Ed G sz
  generalize (K.setFile s x (-1) false).count d b (-1) = K1 at *
  split
  · rename_i hz
    have q3 := I1.rds d hd1
    have q4 := I1.wts d hd1
    have hnone : ∀ i y, i < K1.nS → y < 4 → K1.file i y ≠ d := fun i y hi hy => ends_zero (by omega) (by omega) hi hy
    have I2 : Inv (K1.become (K1.D d 0).toNat 0 (-1)) := inv_become I1 _ 0 (-1)
    have hd2 : d < (K1.become (K1.D d 0).toNat 0 (-1)).nD := hd1
    have hn2 : ∀ i y, i < (K1.become (K1.D d 0).toNat 0 (-1)).nS → y < 4 → (K1.become (K1.D d 0).toNat 0 (-1)).file i y ≠ d := hnone
    generalize K1.become (K1.D d 0).toNat 0 (-1) = K2 at *
    exact inv_noDuct I2 (-1) hd2 (Or.inl rfl) hn2
  · exact I1

theorem inv_close {K : Ker} (I : Inv K) {s x : Nat} (hs : s < K.nS) (hx : x < 4) : Inv (kClose K s x).K := by
  unfold kClose
  split
  · exact I
  exact inv_closeFile I hs hx (by assumption)
theorem inv_shut {K : Ker} (I : Inv K) {s c x : Nat} (hc : c < K.nS) (hx : x < 4) : Inv (kShut K s c x).K := by
  unfold kShut
  split
  · exact I
  split
  · exact I
  exact inv_closeFile I hc hx (by assumption)

set_option maxHeartbeats 1000000 in
theorem inv_reap {K : Ker} (I : Inv K) {s c : Nat} (hc : c < K.nS) : Inv (kReap K s c).K := by
  unfold kReap
  split
  · exact I
  split
  · exact I
  split
  · exact I
  rename_i h0 h1 h2
  have I1 : Inv (K.become (K.S c 2).toNat 0 (-1)) := inv_become I _ 0 (-1)
  have hc1 : c < (K.become (K.S c 2).toNat 0 (-1)).nS := hc
  have hf : ∀ x, x < 4 → (K.become (K.S c 2).toNat 0 (-1)).file c x = -1 := fun x hx => by
    show K.file c x = -1
    obtain rfl | rfl | rfl | rfl : x = 0 ∨ x = 1 ∨ x = 2 ∨ x = 3 := by omega
    all_goals omega
  show Inv ((K.become (K.S c 2).toNat 0 (-1)).noSlot c)
  generalize K.become (K.S c 2).toNat 0 (-1) = K1 at *
  have S' : ∀ i j, (K1.noSlot c).S i j = if i = c then (if j = 0 ∨ j = 19 then 0 else -1) else K1.S i j := fun _ _ => rfl
  have B' : ∀ i j, (K1.noSlot c).B i j = if i = c then false else K1.B i j := fun _ _ => rfl
  have pg : ∀ i p, p < 4 → (K1.noSlot c).page i p = if i = c then -1 else K1.page i p := fun i p hp => by
    show (K1.noSlot c).S i (3 + p * 2) = _
    rw [S', if_neg (show ¬ (3 + p * 2 = 0 ∨ 3 + p * 2 = 19) by omega)]; rfl
  have fl : ∀ i x, x < 4 → (K1.noSlot c).file i x = if i = c then -1 else K1.file i x := fun i x hx => by
    show (K1.noSlot c).S i (11 + x * 2) = _
    rw [S', if_neg (show ¬ (11 + x * 2 = 0 ∨ 11 + x * 2 = 19) by omega)]; rfl
  have fl' : ∀ i x, i < K1.nS → x < 4 → (K1.noSlot c).file i x = K1.file i x := fun i x _ hx => by
    rw [fl i x hx]; split
    · rename_i e; rw [e, hf x hx]
    · rfl
  have G : Good (K1.noSlot c) := by
    refine ⟨fun i p hi hp => ?_, fun i p hi hp hw => ?_, fun i x hi hx => ?_, I1.good.duct, I1.good.head, I1.good.cnt, I1.good.rd, I1.good.wt, fun i hi h => ?_⟩
    · rw [pg i p hp]; split
      · exact Or.inl rfl
      · exact I1.good.page i p hi hp
    · have hw' : (if i = c then false else K1.B i (4 + p * 2)) = true := hw
      rw [pg i p hp]
      by_cases e : i = c
      · rw [if_pos e] at hw'; cases hw'
      · rw [if_neg e] at hw'; rw [if_neg e]; exact I1.good.wr i p hi hp hw'
    · rw [fl' i x hi hx]; exact I1.good.file i x hi hx
    · rw [S'] at h
      by_cases e : i = c
      · rw [if_pos e] at h; simp at h
      · rw [if_neg e] at h; rw [S', if_neg e]; exact I1.good.tab i hi h
  have E : ∀ d b, (K1.noSlot c).ends d b = K1.ends d b := fun d b => by
    unfold Ker.ends
    show countTo ((K1.noSlot c).isEnd d b) (K1.nS * 4) = _
    refine countTo_congr _ fun j hj => ?_
    unfold Ker.isEnd
    have hi : j / 4 < K1.nS := by omega
    have hx : j % 4 < 4 := by omega
    by_cases e : j / 4 = c
    · rw [fl' _ _ hi hx, e, hf _ hx]
      have : ((-1 : Int) == (d : Int)) = false := by rw [beq_eq_false_iff_ne]; omega
      rw [this]; rfl
    · rw [fl' _ _ hi hx, show (K1.noSlot c).end (j / 4) (j % 4) = K1.end (j / 4) (j % 4) from by show (if j / 4 = c then false else K1.B (j / 4) _) = _; rw [if_neg e]; rfl]
  exact ⟨G, I1.hS, fun d hd => by rw [E]; exact I1.rds d hd, fun d hd => by rw [E]; exact I1.wts d hd⟩

theorem inv_new (nF nS nD : Nat) (hF : 2 ≤ nF) (hS : nS ≤ 6) : Inv (kNew nF nS nD) := by
  have G := good_new nF nS nD hF
  have nf : ∀ d : Nat, ∀ i x, i < (kNew nF nS nD).nS → x < 4 → (kNew nF nS nD).file i x ≠ d := fun d i x hi hx => by
    have e' : ¬ (i = 0 ∧ 11 + x * 2 = 0) := by omega
    have e'' : ¬ (i = 0 ∧ 11 + x * 2 = 2) := by omega
    have e3 : ¬ (11 + x * 2 = 0 ∨ 11 + x * 2 = 19) := by omega
    simp only [Ker.file, kNew, kBase, Ker.become, Ker.setS, Ker.setF, upd_other _ _ _ _ _ _ e', upd_other _ _ _ _ _ _ e'', if_neg e3]
    omega
  exact ⟨G, hS, fun d hd => by rw [ends_none d false (nf d)]; rfl, fun d hd => by rw [ends_none d true (nf d)]; rfl⟩
end Go.Proofs.YtcgabodkegcpgaaDoor
