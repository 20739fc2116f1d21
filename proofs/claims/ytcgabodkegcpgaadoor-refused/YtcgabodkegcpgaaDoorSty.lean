/- Plain facts on the kernel's numbers: a call leaves every other process that is ready as it was: its kind, table, pages, files, and the words of its pages. -/
import Derived.Test.YtcgabodkegcpgaaDoorOwn
namespace Go.Proofs.YtcgabodkegcpgaaDoor
set_option linter.unusedVariables false

/-- All is as it was, but the process r, who is whose child, the frame g, and the pipes. -/
structure Rows (K K' : Ker) (r g : Nat) : Prop where
  s : ∀ i j, i ≠ r → j ≠ 1 → K'.S i j = K.S i j
  b : ∀ i j, i ≠ r → K'.B i j = K.B i j
  f : ∀ n i, n ≠ g → K'.F n i = K.F n i
section
variable {K K' K'' : Ker} {r g : Nat}
theorem Rows.refl (K : Ker) (r g : Nat) : Rows K K r g := ⟨fun _ _ _ _ => rfl, fun _ _ _ => rfl, fun _ _ _ => rfl⟩
theorem Rows.trans (h : Rows K K' r g) (k : Rows K' K'' r g) : Rows K K'' r g :=
  ⟨fun i j hi hj => (k.s i j hi hj).trans (h.s i j hi hj), fun i j hi => (k.b i j hi).trans (h.b i j hi), fun n i hn => (k.f n i hn).trans (h.f n i hn)⟩
theorem rows_setF (K : Ker) (r g c : Nat) (v : Int) : Rows K (K.setF g c v) r g := ⟨fun _ _ _ _ => rfl, fun _ _ _ => rfl, fun n i hn => upd_other _ _ _ _ _ _ (by omega)⟩
theorem rows_setD (K : Ker) (r g d c : Nat) (v : Int) : Rows K (K.setD d c v) r g := ⟨fun _ _ _ _ => rfl, fun _ _ _ => rfl, fun _ _ _ => rfl⟩
theorem rows_setS (K : Ker) (r g c : Nat) (v : Int) : Rows K (K.setS r c v) r g := ⟨fun i j hi _ => upd_other _ _ _ _ _ _ (by omega), fun _ _ _ => rfl, fun _ _ _ => rfl⟩
theorem rows_setS1 (K : Ker) (r g i : Nat) (v : Int) : Rows K (K.setS i 1 v) r g := ⟨fun i j _ hj => upd_other _ _ _ _ _ _ (by omega), fun _ _ _ => rfl, fun _ _ _ => rfl⟩
theorem rows_setB (K : Ker) (r g c : Nat) (v : Bool) : Rows K (K.setB r c v) r g := ⟨fun _ _ _ _ => rfl, fun i j hi => upd_other _ _ _ _ _ _ (by omega), fun _ _ _ => rfl⟩
theorem rows_become (K : Ker) (r g : Nat) (a b : Int) : Rows K (K.become g a b) r g :=
  (rows_setF K r g 0 a).trans ((rows_setF _ r g 1 b).trans ((rows_setF _ r g 2 0).trans ((rows_setF _ r g 3 0).trans ((rows_setF _ r g 4 0).trans (rows_setF _ r g 5 0)))))
theorem rows_copyWords (K : Ker) (r g h : Nat) : Rows K (K.copyWords g h) r g :=
  (rows_setF K r g 2 (K.F h 2)).trans ((rows_setF _ r g 3 _).trans ((rows_setF _ r g 4 _).trans (rows_setF _ r g 5 _)))
theorem rows_setPage (K : Ker) (r g p : Nat) (f : Int) (b : Bool) : Rows K (K.setPage r p f b) r g := (rows_setS K r g _ f).trans (rows_setB _ r g _ b)
theorem rows_setFile (K : Ker) (r g x : Nat) (d : Int) (b : Bool) : Rows K (K.setFile r x d b) r g := (rows_setS K r g _ d).trans (rows_setB _ r g _ b)
theorem rows_count (K : Ker) (r g d : Nat) (b : Bool) (m : Int) : Rows K (K.count d b m) r g := by
  cases b
  · exact rows_setD K r g d 3 _
  · exact rows_setD K r g d 4 _
theorem rows_openFile (K : Ker) (r g x d : Nat) (b : Bool) : Rows K (K.openFile r x d b) r g := (rows_setFile K r g x d b).trans (rows_count _ r g d b 1)
theorem rows_noDuct (K : Ker) (r g d : Nat) (f : Int) : Rows K (K.noDuct d f) r g :=
  (rows_setD K r g d 0 f).trans ((rows_setD _ r g d 1 0).trans ((rows_setD _ r g d 2 0).trans ((rows_setD _ r g d 3 0).trans (rows_setD _ r g d 4 0))))
theorem rows_noSlot (K : Ker) (r g : Nat) : Rows K (K.noSlot r) r g :=
  ⟨fun i j hi _ => by show (if i = r then _ else K.S i j) = K.S i j; rw [if_neg hi], fun i j hi => by show (if i = r then false else K.B i j) = K.B i j; rw [if_neg hi], fun _ _ _ => rfl⟩
theorem rows_orphans (K : Ker) (r g s : Nat) : ∀ n, Rows K (K.orphans s n) r g
  | 0 => Rows.refl K r g
  | n + 1 => by
    unfold Ker.orphans
    split
    · exact (rows_orphans K r g s n).trans (rows_setS1 _ r g n 0)
    · exact rows_orphans K r g s n
end

/-- A process is as it was: its own numbers (but whose child it is), and the words of its pages. -/
structure Stays (K K' : Ker) (q : Nat) : Prop where
  s : ∀ j, j ≠ 1 → K'.S q j = K.S q j
  b : ∀ j, K'.B q j = K.B q j
  f : ∀ p, p < 4 → ∀ n : Nat, K.page q p = n → ∀ i, K'.F n i = K.F n i
theorem Stays.refl (K : Ker) (q : Nat) : Stays K K q := ⟨fun _ _ => rfl, fun _ => rfl, fun _ _ _ _ _ => rfl⟩
theorem Rows.stays {K K' : Ker} {r g q : Nat} (h : Rows K K' r g) (O : Own K) (hq : q < K.nS) (hr : q ≠ r) (hg : K.F g 0 = 2 → K.F g 1 ≠ q) : Stays K K' q :=
  ⟨fun j hj => h.s q j hr hj, fun j => h.b q j hr, fun p hp n hn i => h.f n i (by
    rintro rfl
    have := O.what (.page q p) ⟨hq, hp⟩ n hn
    exact hg this.1 this.2)⟩

section
variable {K : Ker} {s q : Nat}
theorem stays_freePage (O : Own K) {c p : Nat} (hq : q < K.nS) (hc : c < K.nS) (hp : p < 4) (hne : q ≠ c) (h1 : K.page c p ≠ -1) : Stays K (K.freePage c p) q := by
  have hr := O.rng (.page c p) ⟨hc, hp⟩
  have hl : K.loc (.page c p) = K.page c p := rfl
  rw [hl] at hr
  obtain ⟨f, hf⟩ : ∃ f : Nat, K.page c p = f := ⟨(K.page c p).toNat, by omega⟩
  have ow : K.F f 1 = c := (O.what (.page c p) ⟨hc, hp⟩ f hf).2
  unfold Ker.freePage
  rw [hf, Int.toNat_natCast]
  exact ((rows_become K c f 0 (-1)).trans (rows_setPage _ c f p (-1) false)).stays O hq hne (fun _ => by omega)
theorem stays_closeFile (O : Own K) (G : Good K) {c x : Nat} (hq : q < K.nS) (hc : c < K.nS) (hx : x < 4) (hne : q ≠ c) (h1 : K.file c x ≠ -1) : Stays K (K.closeFile c x) q := by
  have hF := G.file c x hc hx
  obtain ⟨d, hd⟩ : ∃ d : Nat, K.file c x = d := ⟨(K.file c x).toNat, by omega⟩
  rw [hd, Int.toNat_natCast] at hF
  have hdn : d < K.nD := by omega
  obtain ⟨f, hf⟩ : ∃ f : Nat, K.D d 0 = f := ⟨(K.D d 0).toNat, by omega⟩
  have ow : K.F f 0 = 3 := (O.what (.ring d) hdn f hf).1
  unfold Ker.closeFile
  rw [hd, Int.toNat_natCast]
  generalize hb : K.end c x = b
  show Stays K (if ((K.setFile c x (-1) false).count d b (-1)).D d 3 = 0 ∧ ((K.setFile c x (-1) false).count d b (-1)).D d 4 = 0 then (((K.setFile c x (-1) false).count d b (-1)).become (((K.setFile c x (-1) false).count d b (-1)).D d 0).toNat 0 (-1)).noDuct d (-1) else (K.setFile c x (-1) false).count d b (-1)) q
  have h1 : Rows K ((K.setFile c x (-1) false).count d b (-1)) c f := (rows_setFile K c f x (-1) false).trans (rows_count _ c f d b (-1))
  have d0 : ((K.setFile c x (-1) false).count d b (-1)).D d 0 = K.D d 0 := count_zero _ d b (-1) d
  generalize (K.setFile c x (-1) false).count d b (-1) = K1 at *
  split
  · rw [d0, hf, Int.toNat_natCast]
    have h2 : Rows K1 (K1.become f 0 (-1)) c f := rows_become K1 c f 0 (-1)
    generalize K1.become f 0 (-1) = K2 at *
    exact ((h1.trans h2).trans (rows_noDuct _ c f d (-1))).stays O hq hne (fun _ => by omega)
  · exact h1.stays O hq hne (fun _ => by omega)

theorem stays_map (O : Own K) (p f : Nat) (hq : q < K.nS) (hne : q ≠ s) : Stays K (kMap K s p f).K q := by
  by_cases h0 : K.page s p ≠ -1
  · unfold kMap; rw [if_pos h0]; exact Stays.refl K q
  by_cases h1 : K.F f 0 ≠ 0
  · unfold kMap; rw [if_neg h0, if_pos h1]; exact Stays.refl K q
  unfold kMap; rw [if_neg h0, if_neg h1]
  exact ((rows_become K s f 2 s).trans (rows_setPage _ s f p f true)).stays O hq hne (fun _ => by omega)
theorem stays_unmap (O : Own K) {p : Nat} (hs : s < K.nS) (hp : p < 4) (hq : q < K.nS) (hne : q ≠ s) : Stays K (kUnmap K s p).K q := by
  unfold kUnmap
  split
  · exact Stays.refl K q
  exact stays_freePage O hq hs hp hne (by assumption)
theorem stays_protect (O : Own K) {p : Nat} (v : Int) (hq : q < K.nS) (hne : q ≠ s) : Stays K (kProtect K s p v).K q := by
  unfold kProtect
  split
  · exact Stays.refl K q
  exact ⟨fun _ _ => rfl, (rows_setB K s 0 _ _).b q |> fun h j => h j hne, fun _ _ _ _ _ => rfl⟩
theorem stays_store (O : Own K) (G : Good K) {p x : Nat} (v : Int) (hs : s < K.nS) (hp : p < 4) (hq : q < K.nS) (hne : q ≠ s) : Stays K (kStore K s p x v).K q := by
  unfold kStore
  split
  · exact Stays.refl K q
  rename_i h
  have hw := G.wr s p hs hp (by simpa using h)
  have hr := G.page s p hs hp
  obtain ⟨f, hf⟩ : ∃ f : Nat, K.page s p = f := ⟨(K.page s p).toNat, by omega⟩
  have ow : K.F f 1 = s := (O.what (.page s p) ⟨hs, hp⟩ f hf).2
  rw [hf, Int.toNat_natCast]
  exact (rows_setF K s f _ v).stays O hq hne (fun _ => by omega)
theorem stays_load (p x : Nat) : Stays K (kLoad K s p x).K q := by
  unfold kLoad; split <;> exact Stays.refl K q
theorem stays_write (O : Own K) (G : Good K) {x p j : Nat} (hs : s < K.nS) (hx : x < 4) (hq : q < K.nS) (hne : q ≠ s) : Stays K (kWrite K s x p j).K q := by
  unfold kWrite
  split
  · exact Stays.refl K q
  rename_i h
  split
  · exact Stays.refl K q
  split
  · exact Stays.refl K q
  split
  · exact Stays.refl K q
  have hF := G.file s x hs hx
  obtain ⟨d, hd⟩ : ∃ d : Nat, K.file s x = d := ⟨(K.file s x).toNat, by omega⟩
  rw [hd, Int.toNat_natCast] at hF
  have hdn : d < K.nD := by omega
  obtain ⟨f, hf⟩ : ∃ f : Nat, K.D d 0 = f := ⟨(K.D d 0).toNat, by omega⟩
  have ow : K.F f 0 = 3 := (O.what (.ring d) hdn f hf).1
  rw [hd, Int.toNat_natCast, hf, Int.toNat_natCast]
  exact ((rows_setF K s f _ _).trans (rows_setD _ s f d 2 _)).stays O hq hne (fun _ => by omega)
theorem stays_read (O : Own K) (G : Good K) {x p j : Nat} (hs : s < K.nS) (hp : p < 4) (hq : q < K.nS) (hne : q ≠ s) : Stays K (kRead K s x p j).K q := by
  unfold kRead
  split
  · exact Stays.refl K q
  split
  · exact Stays.refl K q
  rename_i _ h
  split
  · exact Stays.refl K q
  split
  · exact Stays.refl K q
  have hw := G.wr s p hs hp (by simpa using h)
  have hr := G.page s p hs hp
  obtain ⟨f, hf⟩ : ∃ f : Nat, K.page s p = f := ⟨(K.page s p).toNat, by omega⟩
  have ow : K.F f 1 = s := (O.what (.page s p) ⟨hs, hp⟩ f hf).2
  rw [hf, Int.toNat_natCast]
  exact (((rows_setF K s f _ _).trans (rows_setD _ s f _ 1 _)).trans (rows_setD _ s f _ 2 _)).stays O hq hne (fun _ => by omega)
theorem rows_out {K K' : Ker} {r q : Nat} (h : Rows K K' r K.nF) (O : Own K) (hq : q < K.nS) (hr : q ≠ r) : Stays K K' q :=
  ⟨fun j hj => h.s q j hr hj, fun j => h.b q j hr, fun p hp n hn i => h.f n i (by
    rintro rfl
    have := O.rng (.page q p) ⟨hq, hp⟩
    have e : K.loc (.page q p) = K.page q p := rfl
    rw [e] at this; omega)⟩
theorem stays_dup (O : Own K) (x t : Nat) (hq : q < K.nS) (hne : q ≠ s) : Stays K (kDup K s x t).K q := by
  unfold kDup
  split
  · exact Stays.refl K q
  exact rows_out (rows_openFile K s _ t _ _) O hq hne
theorem stays_give (O : Own K) (c x t : Nat) (hq : q < K.nS) (hk : K.S q 0 = 2) : Stays K (kGive K s c x t).K q := by
  unfold kGive
  split
  · exact Stays.refl K q
  rename_i h
  split
  · exact Stays.refl K q
  have hc := embryo_kind h
  exact rows_out (rows_openFile K c _ t _ _) O hq (by rintro rfl; omega)
theorem stays_start (O : Own K) (c : Nat) (hq : q < K.nS) (hk : K.S q 0 = 2) : Stays K (kStart K s c).K q := by
  unfold kStart
  split
  · exact Stays.refl K q
  rename_i h
  have hc := embryo_kind h
  exact rows_out (rows_setS K c _ 0 2) O hq (by rintro rfl; omega)
theorem stays_exit (O : Own K) (a : Int) (hq : q < K.nS) (hne : q ≠ s) : Stays K (kExit K s a).K q := by
  unfold kExit
  split
  · exact Stays.refl K q
  have h1 : Rows K ((K.setS s 0 3).setS s 19 a) s K.nF := (rows_setS K s _ 0 3).trans (rows_setS _ s _ 19 a)
  show Stays K (((K.setS s 0 3).setS s 19 a).orphans s K.nS) q
  generalize (K.setS s 0 3).setS s 19 a = K1 at *
  exact rows_out (h1.trans (rows_orphans K1 s _ s _)) O hq hne
theorem stays_drop (O : Own K) {c p : Nat} (hc : c < K.nS) (hp : p < 4) (hq : q < K.nS) (hk : K.S q 0 = 2) : Stays K (kDrop K s c p).K q := by
  unfold kDrop
  split
  · exact Stays.refl K q
  rename_i h
  split
  · exact Stays.refl K q
  have := still_kind h
  exact stays_freePage O hq hc hp (by rintro rfl; omega) (by assumption)
theorem stays_shut (O : Own K) (G : Good K) {c x : Nat} (hc : c < K.nS) (hx : x < 4) (hq : q < K.nS) (hk : K.S q 0 = 2) : Stays K (kShut K s c x).K q := by
  unfold kShut
  split
  · exact Stays.refl K q
  rename_i h
  split
  · exact Stays.refl K q
  have := still_kind h
  exact stays_closeFile O G hq hc hx (by rintro rfl; omega) (by assumption)
theorem stays_close (O : Own K) (G : Good K) {x : Nat} (hs : s < K.nS) (hx : x < 4) (hq : q < K.nS) (hne : q ≠ s) : Stays K (kClose K s x).K q := by
  unfold kClose
  split
  · exact Stays.refl K q
  exact stays_closeFile O G hq hs hx hne (by assumption)
theorem stays_copy (O : Own K) {c p f : Nat} (hq : q < K.nS) (hk : K.S q 0 = 2) : Stays K (kCopy K s c p f).K q := by
  by_cases h0 : K.embryo s c = false
  · unfold kCopy; rw [if_pos h0]; exact Stays.refl K q
  unfold kCopy; rw [if_neg h0]
  split
  · exact Stays.refl K q
  split
  · exact Stays.refl K q
  have := embryo_kind h0
  have h1 : Rows K ((K.become f 2 c).setPage c p f (K.wr s p)) c f := (rows_become K c f 2 c).trans (rows_setPage _ c f p f _)
  show Stays K (((K.become f 2 c).setPage c p f (K.wr s p)).copyWords f (K.page s p).toNat) q
  generalize (K.become f 2 c).setPage c p f (K.wr s p) = K1 at *
  exact (h1.trans (rows_copyWords K1 c f _)).stays O hq (by rintro rfl; omega) (fun _ => by omega)
theorem stays_spawn (O : Own K) {c f : Nat} (hq : q < K.nS) (hk : K.S q 0 = 2) : Stays K (kSpawn K s c f).K q := by
  by_cases h0 : K.S c 0 ≠ 0
  · unfold kSpawn; rw [if_pos h0]; exact Stays.refl K q
  by_cases h1 : K.F f 0 ≠ 0
  · unfold kSpawn; rw [if_neg h0, if_pos h1]; exact Stays.refl K q
  unfold kSpawn; rw [if_neg h0, if_neg h1]
  have h2 : Rows K (K.become f 1 c) c f := rows_become K c f 1 c
  show Stays K ((((K.become f 1 c).setS c 0 1).setS c 1 s).setS c 2 f) q
  generalize K.become f 1 c = K1 at *
  exact (h2.trans ((rows_setS K1 c f 0 1).trans ((rows_setS _ c f 1 s).trans (rows_setS _ c f 2 f)))).stays O hq (by rintro rfl; omega) (fun _ => by omega)
theorem stays_reap (O : Own K) (G : Good K) {c : Nat} (hc : c < K.nS) (hq : q < K.nS) (hk : K.S q 0 = 2) : Stays K (kReap K s c).K q := by
  unfold kReap
  split
  · exact Stays.refl K q
  split
  · exact Stays.refl K q
  split
  · exact Stays.refl K q
  rename_i h0 h1 h2
  have hs := still_kind h0
  have ht := G.tab c hc (by omega)
  obtain ⟨f, hf⟩ : ∃ f : Nat, K.S c 2 = f := ⟨(K.S c 2).toNat, by omega⟩
  have e : K.loc (.tab c) = f := by show (if K.S c 0 = 0 then (-1 : Int) else K.S c 2) = f; rw [if_neg (by omega), hf]
  have ow : K.F f 0 = 1 := (O.what (.tab c) hc f e).1
  show Stays K ((K.become (K.S c 2).toNat 0 (-1)).noSlot c) q
  rw [hf, Int.toNat_natCast]
  have h3 : Rows K (K.become f 0 (-1)) c f := rows_become K c f 0 (-1)
  generalize K.become f 0 (-1) = K1 at *
  exact (h3.trans (rows_noSlot K1 c f)).stays O hq (by rintro rfl; omega) (fun _ => by omega)
theorem stays_pipe (O : Own K) {n f x : Nat} (hq : q < K.nS) (hne : q ≠ s) : Stays K (kPipe K s n f x).K q := by
  by_cases h0 : K.D n 0 ≠ -1
  · unfold kPipe; rw [if_pos h0]; exact Stays.refl K q
  by_cases h1 : K.F f 0 ≠ 0
  · unfold kPipe; rw [if_neg h0, if_pos h1]; exact Stays.refl K q
  have r1 : Rows K ((K.become f 3 (-1)).noDuct n f) s f := (rows_become K s f 3 (-1)).trans (rows_noDuct _ s f n f)
  unfold kPipe
  rw [if_neg h0, if_neg h1]
  generalize (K.become f 3 (-1)).noDuct n f = K1 at *
  split
  · exact Stays.refl K q
  have r2 : Rows K1 (K1.openFile s x n false) s f := rows_openFile K1 s f x n false
  show Stays K ((K1.openFile s x n false).openFile s (x + 1) n true) q
  generalize K1.openFile s x n false = K2 at *
  exact ((r1.trans r2).trans (rows_openFile K2 s f (x + 1) n true)).stays O hq hne (fun _ => by omega)
end

theorem stays_do {K : Ker} (O : Own K) (G : Good K) (s n : Nat) (a b c : Int) (hs : s < K.nS) (hn : n < 20)
    (hf : fits K ((argKinds n).getD 0 0) a = true ∧ fits K ((argKinds n).getD 1 0) b = true ∧ fits K ((argKinds n).getD 2 0) c = true) {q : Nat} (hq : q < K.nS) (hne : q ≠ s) (hk : K.S q 0 = 2) : Stays K (kDo K s n a b c).K q := by
  obtain ⟨f0, f1, f2⟩ := hf
  have m1 := many1 K; have m2 := many2 K; have m3 := many3 K; have m4 := many4 K; have m5 := many5 K; have m6 := many6 K
  obtain rfl | rfl | rfl | rfl | rfl | rfl | rfl | rfl | rfl | rfl | rfl | rfl | rfl | rfl | rfl | rfl | rfl | rfl | rfl | rfl : n = 0 ∨ n = 1 ∨ n = 2 ∨ n = 3 ∨ n = 4 ∨ n = 5 ∨ n = 6 ∨ n = 7 ∨ n = 8 ∨ n = 9 ∨ n = 10 ∨ n = 11 ∨ n = 12 ∨ n = 13 ∨ n = 14 ∨ n = 15 ∨ n = 16 ∨ n = 17 ∨ n = 18 ∨ n = 19 := by omega
  · exact Stays.refl K q
  · exact Stays.refl K q
  · exact stays_map O _ _ hq hne
  · obtain ⟨a', rfl, ha⟩ := fits_num (t := 4) f0 (by decide)
    exact stays_unmap O hs (by omega) hq hne
  · exact stays_protect O b hq hne
  · exact stays_spawn O hq hk
  · exact stays_copy O hq hk
  · exact stays_give O _ _ _ hq hk
  · exact stays_start O _ hq hk
  · exact stays_exit O a hq hne
  · obtain ⟨a', rfl, ha⟩ := fits_num (t := 2) f0 (by decide)
    obtain ⟨b', rfl, hb⟩ := fits_num (t := 4) f1 (by decide)
    exact stays_drop O (by omega) (by omega) hq hk
  · obtain ⟨a', rfl, ha⟩ := fits_num (t := 2) f0 (by decide)
    obtain ⟨b', rfl, hb⟩ := fits_num (t := 5) f1 (by decide)
    exact stays_shut O G (by omega) (by omega) hq hk
  · obtain ⟨a', rfl, ha⟩ := fits_num (t := 2) f0 (by decide)
    exact stays_reap O G (by omega) hq hk
  · exact stays_pipe O hq hne
  · exact stays_dup O _ _ hq hne
  · obtain ⟨a', rfl, ha⟩ := fits_num (t := 5) f0 (by decide)
    exact stays_close O G hs (by omega) hq hne
  · obtain ⟨a', rfl, ha⟩ := fits_num (t := 5) f0 (by decide)
    exact stays_write O G hs (by omega) hq hne
  · obtain ⟨b', rfl, hb⟩ := fits_num (t := 4) f1 (by decide)
    exact stays_read O G hs (by omega) hq hne
  · exact stays_load _ _
  · obtain ⟨a', rfl, ha⟩ := fits_num (t := 4) f0 (by decide)
    exact stays_store O G c hs (by omega) hq hne
theorem stays_call {K : Ker} (O : Own K) (G : Good K) (slot call a b c : Int) {q : Nat} (hq : q < K.nS) (hne : (q : Int) ≠ slot) (hk : K.S q 0 = 2) : Stays K (kCall K slot call a b c).K q :=
  call_cases K slot call a b c (fun o => Stays K o.K q) (fun _ => Stays.refl K q) (fun s n e hs _ hn hf => stays_do O G s n a b c hs hn hf hq (by omega) hk)
end Go.Proofs.YtcgabodkegcpgaaDoor
