/- Plain facts on the kernel's numbers: every call keeps the books good and the files counted right. -/
import Derived.Test.YtcgabodkegcpgaaDoorInv2
namespace Go.Proofs.YtcgabodkegcpgaaDoor
set_option linter.unusedVariables false

theorem inv_setF {K : Ker} (I : Inv K) (i c : Nat) (v : Int) : Inv (K.setF i c v) := I.of (good_setF I.good i c v) rfl rfl (fun _ _ _ _ => ⟨rfl, rfl⟩) (fun _ _ => ⟨rfl, rfl⟩)
theorem inv_become {K : Ker} (I : Inv K) (i : Nat) (a b : Int) : Inv (K.become i a b) :=
  inv_setF (inv_setF (inv_setF (inv_setF (inv_setF (inv_setF I _ _ _) _ _ _) _ _ _) _ _ _) _ _ _) _ _ _
theorem inv_copyWords {K : Ker} (I : Inv K) (g h : Nat) : Inv (K.copyWords g h) := inv_setF (inv_setF (inv_setF (inv_setF I _ _ _) _ _ _) _ _ _) _ _ _
theorem inv_setPage {K : Ker} (I : Inv K) (s p : Nat) (f : Int) (b : Bool) (hp : p < 4) (hf : f = -1 ∨ (0 ≤ f ∧ f < K.nF)) (hb : b = true → f ≠ -1) : Inv (K.setPage s p f b) :=
  I.of (good_setPage I.good s p f b hp hf hb) rfl rfl (fun i x _ hx => ⟨upd_other K.S s (3 + p * 2) f i (11 + x * 2) (by omega), upd_other K.B s (4 + p * 2) b i (12 + x * 2) (by omega)⟩) (fun _ _ => ⟨rfl, rfl⟩)
theorem inv_setD {K : Ker} (I : Inv K) (d c : Nat) (v : Int) (h : (c = 1 ∧ 0 ≤ v ∧ v < 4) ∨ (c = 2 ∧ 0 ≤ v ∧ v ≤ 4)) : Inv (K.setD d c v) :=
  I.of (good_setD I.good d c v (by omega)) rfl rfl (fun _ _ _ _ => ⟨rfl, rfl⟩) (fun i _ => ⟨upd_other K.D d c v i 3 (by omega), upd_other K.D d c v i 4 (by omega)⟩)

theorem good_setS {K : Ker} (G : Good K) (i c : Nat) (v : Int) (hc : c = 0 ∨ c = 1 ∨ c = 2 ∨ c = 19) (ht : ∀ j, j < K.nS → (K.setS i c v).S j 0 ≠ 0 → 0 ≤ (K.setS i c v).S j 2 ∧ (K.setS i c v).S j 2 < K.nF) : Good (K.setS i c v) := by
  have hp : ∀ j p, p < 4 → (K.setS i c v).page j p = K.page j p := fun j p hp => upd_other K.S i c v j (3 + p * 2) (by omega)
  have hf : ∀ j x, x < 4 → (K.setS i c v).file j x = K.file j x := fun j x hx => upd_other K.S i c v j (11 + x * 2) (by omega)
  exact ⟨fun j p hj hq => by rw [hp j p hq]; exact G.page j p hj hq, fun j p hj hq h => by rw [hp j p hq]; exact G.wr j p hj hq h, fun j x hj hx => by rw [hf j x hx]; exact G.file j x hj hx, G.duct, G.head, G.cnt, G.rd, G.wt, ht⟩
theorem inv_setS {K : Ker} (I : Inv K) (i c : Nat) (v : Int) (hc : c = 0 ∨ c = 1 ∨ c = 2 ∨ c = 19) (ht : ∀ j, j < K.nS → (K.setS i c v).S j 0 ≠ 0 → 0 ≤ (K.setS i c v).S j 2 ∧ (K.setS i c v).S j 2 < K.nF) : Inv (K.setS i c v) :=
  I.of (good_setS I.good i c v hc ht) rfl rfl (fun j x _ hx => ⟨upd_other K.S i c v j (11 + x * 2) (by omega), rfl⟩) (fun _ _ => ⟨rfl, rfl⟩)
/-- Columns that the tables do not hang on. -/
theorem inv_setS_aside {K : Ker} (I : Inv K) (i c : Nat) (v : Int) (hc : c = 1 ∨ c = 19) : Inv (K.setS i c v) :=
  inv_setS I i c v (by omega) (fun j hj h => by
    have e0 : (K.setS i c v).S j 0 = K.S j 0 := upd_other K.S i c v j 0 (by omega)
    have e2 : (K.setS i c v).S j 2 = K.S j 2 := upd_other K.S i c v j 2 (by omega)
    rw [e0] at h; rw [e2]; exact I.good.tab j hj h)
/-- A process that is one turns into another one. -/
theorem inv_setS_kind {K : Ker} (I : Inv K) (i : Nat) (v : Int) (h0 : K.S i 0 ≠ 0) : Inv (K.setS i 0 v) :=
  inv_setS I i 0 v (by omega) (fun j hj h => by
    have e2 : (K.setS i 0 v).S j 2 = K.S j 2 := upd_other K.S i 0 v j 2 (by omega)
    rw [e2]
    by_cases e : j = i
    · subst e; exact I.good.tab j hj h0
    · have e0 : (K.setS i 0 v).S j 0 = K.S j 0 := upd_other K.S i 0 v j 0 (by omega)
      rw [e0] at h; exact I.good.tab j hj h)

theorem inv_map {K : Ker} (I : Inv K) {s p f : Nat} (hp : p < 4) (hf : f < K.nF) : Inv (kMap K s p f).K := by
  unfold kMap
  split
  · exact I
  split
  · exact I
  exact inv_setPage (inv_become I f 2 s) s p f true hp (Or.inr ⟨by omega, by show (f : Int) < K.nF; omega⟩) (by omega)
theorem inv_freePage {K : Ker} (I : Inv K) {s p : Nat} (hp : p < 4) : Inv (K.freePage s p) := by
  unfold Ker.freePage
  exact inv_setPage (inv_become I _ 0 (-1)) s p (-1) false hp (Or.inl rfl) (by intro h; cases h)
theorem inv_unmap {K : Ker} (I : Inv K) {s p : Nat} (hp : p < 4) : Inv (kUnmap K s p).K := by
  unfold kUnmap
  split
  · exact I
  exact inv_freePage I hp
theorem inv_protect {K : Ker} (I : Inv K) {s p : Nat} (v : Int) (hp : p < 4) : Inv (kProtect K s p v).K := by
  unfold kProtect
  split
  · exact I
  rename_i h
  have e : ∀ i q, q < 4 → ¬ (i = s ∧ q = p) → (K.setB s (4 + p * 2) (v != 0)).wr i q = K.wr i q := fun i q hq e => upd_other K.B s (4 + p * 2) _ i (4 + q * 2) (by omega)
  refine I.of ⟨I.good.page, fun i q hi hq hw => ?_, I.good.file, I.good.duct, I.good.head, I.good.cnt, I.good.rd, I.good.wt, I.good.tab⟩ rfl rfl (fun i x _ hx => ⟨rfl, upd_other K.B s (4 + p * 2) _ i (12 + x * 2) (by omega)⟩) (fun _ _ => ⟨rfl, rfl⟩)
  by_cases e' : i = s ∧ q = p
  · obtain ⟨rfl, rfl⟩ := e'; exact h
  · rw [e i q hq e'] at hw; exact I.good.wr i q hi hq hw
theorem inv_store {K : Ker} (I : Inv K) (s p x : Nat) (v : Int) : Inv (kStore K s p x v).K := by
  unfold kStore; split
  · exact I
  · exact inv_setF I _ _ _
theorem inv_load {K : Ker} (I : Inv K) (s p x : Nat) : Inv (kLoad K s p x).K := by
  unfold kLoad; split <;> exact I
theorem inv_write {K : Ker} (I : Inv K) {s x p j : Nat} (hs : s < K.nS) (hx : x < 4) : Inv (kWrite K s x p j).K := by
  unfold kWrite
  split
  · exact I
  rename_i h1
  split
  · exact I
  split
  · exact I
  split
  · exact I
  rename_i h2 h3 h4
  have hd : (K.file s x).toNat < K.nD := by rcases I.good.file s x hs hx with k | k <;> omega
  have := I.good.cnt _ hd
  exact inv_setD (inv_setF I _ _ _) _ 2 _ (by omega)
theorem inv_read {K : Ker} (I : Inv K) {s x p j : Nat} (hs : s < K.nS) (hx : x < 4) : Inv (kRead K s x p j).K := by
  unfold kRead
  split
  · exact I
  rename_i h1
  split
  · exact I
  split
  · exact I
  split
  · exact I
  rename_i h2 h3 h4
  have hd : (K.file s x).toNat < K.nD := by rcases I.good.file s x hs hx with k | k <;> omega
  have := I.good.cnt _ hd
  have := I.good.head _ hd
  exact inv_setD (inv_setD (inv_setF I _ _ _) _ 1 _ (by omega)) _ 2 _ (by omega)
theorem inv_dup {K : Ker} (I : Inv K) {s x t : Nat} (hs : s < K.nS) (hx : x < 4) (ht : t < 4) : Inv (kDup K s x t).K := by
  unfold kDup
  split
  · exact I
  rename_i h
  have hd := I.good.file s x hs hx
  exact inv_openFile I _ hs ht (by omega) (by omega) (by omega)
theorem inv_give {K : Ker} (I : Inv K) {s c x t : Nat} (hs : s < K.nS) (hc : c < K.nS) (hx : x < 4) (ht : t < 4) : Inv (kGive K s c x t).K := by
  unfold kGive
  split
  · exact I
  split
  · exact I
  rename_i h
  have hd := I.good.file s x hs hx
  exact inv_openFile I _ hc ht (by omega) (by omega) (by omega)
theorem inv_start {K : Ker} (I : Inv K) {s c : Nat} : Inv (kStart K s c).K := by
  unfold kStart
  split
  · exact I
  rename_i h
  refine inv_setS_kind I c 2 ?_
  intro h0
  apply h
  unfold Ker.embryo
  rw [h0]; simp
theorem inv_spawn {K : Ker} (I : Inv K) {s c f : Nat} (hf : f < K.nF) : Inv (kSpawn K s c f).K := by
  unfold kSpawn
  split
  · exact I
  split
  · exact I
  rename_i h0 h1
  have I0 : Inv (K.become f 1 c) := inv_become I f 1 c
  have hF : f < (K.become f 1 c).nF := hf
  have hk0 : K.S c 0 = 0 := by simpa using h0
  have hk : (K.become f 1 c).S c 0 = 0 := hk0
  clear hk0
  show Inv ((((K.become f 1 c).setS c 0 1).setS c 1 s).setS c 2 f)
  generalize K.become f 1 c = K0 at *
  have sw : ((K0.setS c 0 1).setS c 1 s).setS c 2 f = ((K0.setS c 2 f).setS c 0 1).setS c 1 s := by
    unfold Ker.setS
    congr 1
    funext i j
    unfold upd
    by_cases e0 : i = c ∧ j = 0
    · simp [e0]
    · by_cases e1 : i = c ∧ j = 1
      · simp [e1]
      · by_cases e2 : i = c ∧ j = 2
        · simp [e2]
        · simp [e0, e1, e2]
  rw [sw]
  have I1 : Inv (K0.setS c 2 f) := inv_setS I0 c 2 f (by omega) (fun j hj h => by
    have e0 : (K0.setS c 2 f).S j 0 = K0.S j 0 := upd_other K0.S c 2 f j 0 (by omega)
    by_cases e : j = c
    · subst e; rw [e0, hk] at h; exact absurd rfl h
    · rw [e0] at h
      rw [show (K0.setS c 2 f).S j 2 = K0.S j 2 from upd_other K0.S c 2 f j 2 (by omega)]; exact I0.good.tab j hj h)
  have I2 : Inv ((K0.setS c 2 f).setS c 0 1) := inv_setS I1 c 0 1 (by omega) (fun j hj h => by
    have e2 : ((K0.setS c 2 f).setS c 0 1).S j 2 = (K0.setS c 2 f).S j 2 := upd_other (K0.setS c 2 f).S c 0 1 j 2 (by omega)
    rw [e2]
    by_cases e : j = c
    · subst e
      rw [show (K0.setS j 2 f).S j 2 = f from upd_same K0.S j 2 f]
      show 0 ≤ (f : Int) ∧ (f : Int) < K0.nF
      omega
    · have e0 : ((K0.setS c 2 f).setS c 0 1).S j 0 = (K0.setS c 2 f).S j 0 := upd_other (K0.setS c 2 f).S c 0 1 j 0 (by omega)
      rw [e0] at h
      exact I1.good.tab j hj h)
  exact inv_setS_aside I2 c 1 s (by omega)
theorem inv_copy {K : Ker} (I : Inv K) {s c p f : Nat} (hp : p < 4) (hf : f < K.nF) : Inv (kCopy K s c p f).K := by
  unfold kCopy
  split
  · exact I
  split
  · exact I
  split
  · exact I
  exact inv_copyWords (inv_setPage (inv_become I f 2 c) c p f _ hp (Or.inr ⟨by omega, by show (f : Int) < K.nF; omega⟩) (by omega)) f _
theorem inv_orphans {K : Ker} (I : Inv K) (s : Nat) : ∀ n, Inv (K.orphans s n)
  | 0 => I
  | n + 1 => by
    unfold Ker.orphans
    split
    · exact inv_setS_aside (inv_orphans I s n) n 1 0 (by omega)
    · exact inv_orphans I s n
theorem inv_exit {K : Ker} (I : Inv K) {s : Nat} (a : Int) (h : K.S s 0 ≠ 0) : Inv (kExit K s a).K := by
  unfold kExit
  split
  · exact I
  exact inv_orphans (inv_setS_aside (inv_setS_kind I s 3 h) s 19 a (by omega)) s K.nS
theorem inv_drop {K : Ker} (I : Inv K) {s c p : Nat} (hp : p < 4) : Inv (kDrop K s c p).K := by
  unfold kDrop
  split
  · exact I
  split
  · exact I
  exact inv_freePage I hp
end Go.Proofs.YtcgabodkegcpgaaDoor
