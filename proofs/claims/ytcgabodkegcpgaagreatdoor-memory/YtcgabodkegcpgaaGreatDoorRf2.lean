/- The reference's calls on memory: Map, Unmap, Protect, Load, Store: they answer as the kernel's, and stand to it as before. -/
import Derived.Test.YtcgabodkegcpgaaGreatDoorRf1
namespace Go.Proofs.YtcgabodkegcpgaaGreatDoor
open Go.RowKit
set_option linter.unusedVariables false
set_option linter.unusedSimpArgs false
attribute [local go_sem ↓] Go.wp_at_zero Go.wp_at_succ

structure RKeeps (B : RB) (w w' : World) : Prop where
  os : w'.os = w.os
  tape : w'.tape = w.tape
  output : w'.output = w.output
  size : w.heap.size ≤ w'.heap.size
  block : ∀ k, k < w.heap.size → k ≠ B.bw → k ≠ B.bp → (∀ q, q < 3 → k ≠ B.bq q) → w'.heap[k]? = w.heap[k]?
section
variable {B : RB} {a w w' : World}
theorem RKeeps.refl (w : World) : RKeeps B w w := ⟨rfl, rfl, rfl, Nat.le_refl _, fun _ _ _ _ _ => rfl⟩
theorem RKeeps.trans (h : RKeeps B a w) (k : RKeeps B w w') : RKeeps B a w' :=
  ⟨k.os.trans h.os, k.tape.trans h.tape, k.output.trans h.output, Nat.le_trans h.size k.size, fun i hi h1 h2 h3 => (k.block i (Nat.lt_of_lt_of_le hi h.size) h1 h2 h3).trans (h.block i hi h1 h2 h3)⟩
theorem RKeeps.of_below (b : Below w.heap.size w w') : RKeeps B w w' := ⟨b.os, b.tape, b.output, b.size, fun k hk _ _ _ => b.block k hk⟩
theorem RKeeps.alloc (h : RKeeps B a w) (o : Obj) : RKeeps B a (w.alloc o) := h.trans ⟨rfl, rfl, rfl, by simp, fun k hk _ _ _ => Below.heap_alloc w o k hk⟩
theorem RKeeps.drew (h : RKeeps B a w) : RKeeps B a w.drew := ⟨h.os, h.tape, h.output, h.size, h.block⟩
theorem RKeeps.setW (h : RKeeps B a w) (o : Nat) (u : Value) : RKeeps B a (w.setCell ⟨B.bw, o, none⟩ u) :=
  ⟨h.os, h.tape, h.output, by rw [size_setCell]; exact h.size, fun k hk h1 h2 h3 => by rw [Below.heap_setCell w _ u k (by simpa using h1)]; exact h.block k hk h1 h2 h3⟩
theorem RKeeps.setP (h : RKeeps B a w) (o : Nat) (u : Value) : RKeeps B a (w.setCell ⟨B.bp, o, none⟩ u) :=
  ⟨h.os, h.tape, h.output, by rw [size_setCell]; exact h.size, fun k hk h1 h2 h3 => by rw [Below.heap_setCell w _ u k (by simpa using h2)]; exact h.block k hk h1 h2 h3⟩
theorem RKeeps.setR (h : RKeeps B a w) {q : Nat} (hq : q < 3) (o : Nat) (u : Value) : RKeeps B a (w.setCell ⟨B.bq q, o, none⟩ u) :=
  ⟨h.os, h.tape, h.output, by rw [size_setCell]; exact h.size, fun k hk h1 h2 h3 => by rw [Below.heap_setCell w _ u k (by simpa using h3 q hq)]; exact h.block k hk h1 h2 h3⟩
end
/-- How a call of the reference ends: it answers as the kernel's, and what it holds stands to the kernel's numbers behind that call. -/
def REnds (B : RB) (w : World) (o : Out) (e : Ending) (w' : World) : Prop :=
  e = .returned (.tuple #[.int .i64 o.n, .int .i64 o.e]) ∧ (∃ r', RMem w' B r' ∧ Rel o.K r') ∧ RKeeps B w w'
theorem REnds.mk {B : RB} {w w' : World} {o : Out} {K' : Ker} {r' : Rk} {n e : Int} (E : Hid (o = ⟨K', n, e⟩)) (M : RMem w' B r') (U : Rel K' r') (k : RKeeps B w w') : REnds B w o (.returned (.tuple #[.int .i64 n, .int .i64 e])) w' := by
  unfold REnds; rw [E.out]; exact ⟨rfl, ⟨r', M, U⟩, k⟩

def Rk.zero (r : Rk) (b : Nat) : Rk := (((r.setW b 0 0).setW b 1 0).setW b 2 0).setW b 3 0
theorem zero_W (r : Rk) (b g j : Nat) (hj : j < 4) : (r.zero b).W g j = if g = b then 0 else r.W g j := by
  unfold Rk.zero Rk.setW upd
  by_cases h : g = b
  · subst h
    obtain rfl | rfl | rfl | rfl : j = 0 ∨ j = 1 ∨ j = 2 ∨ j = 3 := by omega
    all_goals simp
  · simp [h]
theorem pNum_setPage (K : Ker) (s p : Nat) (f : Int) (b : Bool) (hp : p < 4) (i c : Nat) (hc : c < 12) : pNum (K.setPage s p f b) i c = if i = s ∧ c = 4 + p then encP f b else pNum K i c := by
  have S' : ∀ j, j ≠ 3 + p * 2 → (K.setPage s p f b).S i j = K.S i j := fun j hj => upd_other _ _ _ _ _ _ (by omega)
  unfold pNum
  by_cases h1 : c < 3
  · rw [if_pos h1, if_pos h1, S' c (by omega), if_neg (by omega)]
  rw [if_neg h1, if_neg h1]
  by_cases h2 : c = 3
  · rw [if_pos h2, if_pos h2, S' 19 (by omega), if_neg (by omega)]
  rw [if_neg h2, if_neg h2]
  by_cases h3 : c < 8
  · rw [if_pos h3, if_pos h3]
    have e1 : (K.setPage s p f b).page i (c - 4) = if i = s ∧ c = 4 + p then f else K.page i (c - 4) := by
      show upd K.S s (3 + p * 2) f i (3 + (c - 4) * 2) = _
      by_cases h : i = s ∧ c = 4 + p
      · rw [if_pos h, h.1, show 3 + (c - 4) * 2 = 3 + p * 2 by omega, upd_same]
      · rw [if_neg h, upd_other _ _ _ _ _ _ (by omega)]; rfl
    have e2 : (K.setPage s p f b).wr i (c - 4) = if i = s ∧ c = 4 + p then b else K.wr i (c - 4) := by
      show upd K.B s (4 + p * 2) b i (4 + (c - 4) * 2) = _
      by_cases h : i = s ∧ c = 4 + p
      · rw [if_pos h, h.1, show 4 + (c - 4) * 2 = 4 + p * 2 by omega, upd_same]
      · rw [if_neg h, upd_other _ _ _ _ _ _ (by omega)]; rfl
    rw [e1, e2]
    split <;> rfl
  · rw [if_neg h3, if_neg h3, if_neg (by omega)]
    have e1 : (K.setPage s p f b).file i (c - 8) = K.file i (c - 8) := S' _ (by omega)
    have e2 : (K.setPage s p f b).end i (c - 8) = K.end i (c - 8) := upd_other _ _ _ _ _ _ (by omega)
    rw [e1, e2]
theorem pNum_same {K K' : Ker} (hS : K'.S = K.S) (hB : K'.B = K.B) (i c : Nat) : pNum K' i c = pNum K i c := by
  unfold pNum Ker.page Ker.wr Ker.file Ker.end; rw [hS, hB]

/-- Words alone, kinds alone. -/
theorem Rel.frame {K K1 : Ker} {r : Rk} (U : Rel K r) (z : SameSize K K1) (hS : K1.S = K.S) (hB : K1.B = K.B) (hD : K1.D = K.D) {g : Nat} (hF : ∀ n c, n ≠ g → K1.F n c = K.F n c)
    (r' : Rk) (hr : r'.nF = r.nF ∧ r'.nS = r.nS ∧ r'.nD = r.nD ∧ r'.P = r.P ∧ r'.R = r.R) (hW : ∀ n j, j < 4 → n ≠ g → r'.W n j = r.W n j) (hg : ∀ j, j < 4 → g < K.nF → (K1.F g 0 = 2 ∨ K1.F g 0 = 3) → r'.W g j = K1.F g (2 + j)) : Rel K1 r' := by
  refine ⟨by rw [hr.1, z.f]; exact U.f, by rw [hr.2.1, z.s]; exact U.s, by rw [hr.2.2.1, z.d]; exact U.d, fun i c hi hc => ?_, fun n j hn hj hk => ?_, fun e q he hq => ?_⟩
  · rw [hr.2.2.2.1, pNum_same hS hB]; rw [z.s] at hi; exact U.p i c hi hc
  · rw [z.f] at hn
    by_cases e : n = g
    · subst e; exact hg j hj hn hk
    · rw [hF n 0 e] at hk; rw [hF n _ e, hW n j hj e]; exact U.w n j hn hj hk
  · rw [hr.2.2.2.2, hD]; rw [z.d] at he; exact U.q e q he hq
theorem Rel.setPage {K : Ker} {r : Rk} (U : Rel K r) (s p : Nat) (f : Int) (b : Bool) (hp : p < 4) : Rel (K.setPage s p f b) (r.setP s (4 + p) (encP f b)) := by
  refine ⟨U.f, U.s, U.d, fun i c hi hc => ?_, U.w, U.q⟩
  rw [pNum_setPage K s p f b hp i c hc]
  show upd r.P s (4 + p) (encP f b) i c = _
  by_cases h : i = s ∧ c = 4 + p
  · rw [if_pos h, h.1, h.2, upd_same]
  · rw [if_neg h, upd_other _ _ _ _ _ _ h]; exact U.p i c hi hc
/-- A frame becomes something with words 0, the reference writes zeros. -/
theorem Rel.become {K : Ker} {r : Rk} (U : Rel K r) (f : Nat) (a b : Int) : Rel (K.become f a b) (r.zero f) :=
  U.frame (K1 := K.become f a b) ⟨rfl, rfl, rfl⟩ rfl rfl rfl (g := f) (fun n c hn => Ker.become_F K f a b n c hn) (r.zero f) ⟨rfl, rfl, rfl, rfl, rfl⟩ (fun n j hj hn => by rw [zero_W r f n j hj, if_neg hn])
    (fun j hj _ _ => by rw [zero_W r f f j hj, if_pos rfl, become_col, if_neg (by omega), if_neg (by omega), if_pos (by omega)])
/-- A frame becomes free, or a table: the reference does nothing. -/
theorem Rel.frees {K : Ker} {r : Rk} (U : Rel K r) (f : Nat) (a b : Int) (ha : a ≠ 2 ∧ a ≠ 3) : Rel (K.become f a b) r :=
  U.frame (K1 := K.become f a b) ⟨rfl, rfl, rfl⟩ rfl rfl rfl (g := f) (fun n c hn => Ker.become_F K f a b n c hn) r ⟨rfl, rfl, rfl, rfl, rfl⟩ (fun n j hj hn => rfl)
    (fun j hj _ h => by rw [(own_become_at K f a b).1] at h; omega)
theorem Rel.setWord {K : Ker} {r : Rk} (U : Rel K r) (f j : Nat) (v : Int) (hj : j < 4) : Rel (K.setF f (2 + j) v) (r.setW f j v) :=
  U.frame (K1 := K.setF f (2 + j) v) ⟨rfl, rfl, rfl⟩ rfl rfl rfl (g := f) (fun n c hn => upd_other _ _ _ _ _ _ (by omega)) (r.setW f j v) ⟨rfl, rfl, rfl, rfl, rfl⟩ (fun n i hi hn => upd_other _ _ _ _ _ _ (by omega))
    (fun i hi hf h => by
      have h0 : (K.setF f (2 + j) v).F f 0 = K.F f 0 := upd_other _ _ _ _ _ _ (by omega)
      rw [h0] at h
      show upd r.W f j v f i = upd K.F f (2 + j) v f (2 + i)
      by_cases e : i = j
      · subst e; rw [upd_same, upd_same]
      · rw [upd_other _ _ _ _ _ _ (by omega), upd_other _ _ _ _ _ _ (by omega)]; exact U.w f i hf hi h)

/-- What a page's number says of it. -/
theorem enc_cases {K : Ker} {r : Rk} (G : Good K) (U : Rel K r) {s p : Nat} (hs : s < K.nS) (hp : p < 4) (hF : K.nF ≤ 32) :
    (K.page s p = -1 ∧ K.wr s p = false ∧ r.P s (4 + p) = 0) ∨ ∃ n : Nat, K.page s p = n ∧ n < K.nF ∧ ((K.wr s p = false ∧ r.P s (4 + p) = 2 * (n : Int) + 1) ∨ (K.wr s p = true ∧ r.P s (4 + p) = 2 * (n : Int) + 2)) := by
  have hg := G.page s p hs hp
  have hv := U.page hs hp
  by_cases h : K.page s p = -1
  · left
    refine ⟨h, ?_, by rw [hv, h, encP_none]⟩
    cases hw : K.wr s p
    · rfl
    · exact absurd h (G.wr s p hs hp hw)
  · right
    obtain ⟨n, hn⟩ : ∃ n : Nat, K.page s p = n := ⟨(K.page s p).toNat, by omega⟩
    refine ⟨n, hn, by omega, ?_⟩
    rw [hv, hn, encP_some]
    cases hw : K.wr s p
    · left; simp
    · right; simp

section
variable {w : World} {B : RB} {r : Rk} {K : Ker}
set_option maxHeartbeats 2000000 in
theorem memory_map (M : RMem w B r) (U : Rel K r) (O : Own K) (N : Neat K) (G : Good K) {s p f : Nat} (z : Int) (hs : s < K.nS) (hp : p < 4) (hf : f < K.nF) :
    Calls Tryz.prog 39 #[.pointer (some ⟨B.b, 0, none⟩), .int .i64 s, .int .i64 2, .int .i64 p, .int .i64 f, .int .i64 z] w (REnds B w (kMap K s p f)) := by
  have HM : Hid (RMem w B r) := M
  have HU : Hid (Rel K r) := U
  have k0 := M.k0
  have k1 := M.k1
  have hF : r.nF ≤ 32 := M.hF
  have EF : Hid (r.nF = K.nF ∧ r.nS = K.nS) := ⟨U.f, U.s⟩
  have hs' : s < r.nS := by have := U.s; omega
  have hf' : f < r.nF := by have := U.f; omega
  have i1 : (0 : Int) ≤ (s : Int) := by omega
  have i2 : (s : Int) < (r.nS : Int) := by omega
  have j1 : (0 : Int) ≤ (p : Int) := by omega
  have j2 : (p : Int) < 4 := by omega
  have l1 : (0 : Int) ≤ (f : Int) := by omega
  have l2 : (f : Int) < (r.nF : Int) := by omega
  have c1 : w.cell? ⟨B.bp, s * 12 + 4 + p, none⟩ = some (.int .i64 (r.P s (4 + p))) := by rw [Nat.add_assoc]; exact M.pr s (4 + p) hs' (by omega)
  clear M U
  go_enter Tryz.func39, Tryz.ntmps39
  rcases enc_cases G HU.out hs hp (by have := EF.out; omega) with ⟨h1, h2, h3⟩ | ⟨n, h1, h2, h3⟩
  · rw [h3] at c1
    by_cases h0 : K.F f 0 = 0
    · have E : Hid (kMap K s p f = ⟨(K.become f 2 s).setPage s p f true, 0, 0⟩) := by unfold kMap Hid; rw [if_neg (by omega), if_neg (by omega)]
      have e0 : (K.F f 0 == 0) = true := by simpa using h0
      go_wp2_with fail
      refine (free_rep HM.out HU.out O N G hf).mono ?_
      rintro e w1 ⟨rfl, rfl⟩
      rw [e0]
      have zp := HM.out.zp
      have zw := HM.out.zw
      have n1 := HM.out.wp
      have n2 : B.bp ≠ B.bw := fun e => n1 e.symm
      have d0 : w1.cell? ⟨B.bw, f * 4, none⟩ = some (.int .i64 (r.W f 0)) := HM.out.wd f 0 hf' (by omega)
      have d1 := HM.out.wd f 1 hf' (by omega)
      have d2 := HM.out.wd f 2 hf' (by omega)
      have d3 := HM.out.wd f 3 hf' (by omega)
      have b1 := HM.out.bw
      have b2 := HM.out.bp
      have b3 : B.bw ≠ B.b := fun e => b1 e.symm
      have b4 : B.bp ≠ B.b := fun e => b2 e.symm
      go_wp2
      go_ret2
      have M1 := HM.out.setP (i := s) (c := 4 + p) (o := s * 12 + 4 + p) hs' (by omega) (by omega) (2 * (f : Int) + 2)
      have M2 := M1.setW (i := f) (c := 0) (o := f * 4) hf' (by omega) (by omega) 0
      have M3 := M2.setW (i := f) (c := 1) (o := f * 4 + 1) hf' (by omega) (by omega) 0
      have M4 := M3.setW (i := f) (c := 2) (o := f * 4 + 2) hf' (by omega) (by omega) 0
      have M5 := M4.setW (i := f) (c := 3) (o := f * 4 + 3) hf' (by omega) (by omega) 0
      refine REnds.mk E M5 ?_ (((((RKeeps.refl _).setP _ _).setW _ _).setW _ _).setW _ _ |>.setW _ _)
      have U2 := (HU.out.become f 2 s).setPage s p f true hp
      rw [encP_some] at U2
      exact U2
    · have E : Hid (kMap K s p f = ⟨K, 0, 5⟩) := by unfold kMap Hid; rw [if_neg (by omega), if_pos (by omega)]
      have e0 : (K.F f 0 == 0) = false := by simpa using h0
      go_wp2_with fail
      refine (free_rep HM.out HU.out O N G hf).mono ?_
      rintro e w1 ⟨rfl, rfl⟩
      rw [e0]
      go_wp2
      go_ret2
      exact REnds.mk E HM.out HU.out (RKeeps.refl _)
  · have E : Hid (kMap K s p f = ⟨K, 0, 6⟩) := by unfold kMap Hid; rw [if_pos (by omega)]
    obtain ⟨v, hv, hv0, hv1⟩ : ∃ v, r.P s (4 + p) = v ∧ 0 < v ∧ v < 100 := ⟨_, rfl, by omega, by have := EF.out; omega⟩
    rw [hv] at c1
    clear h3 hv
    go_wp2
    go_ret2
    exact REnds.mk E HM.out HU.out (RKeeps.refl _)
end
end Go.Proofs.YtcgabodkegcpgaaGreatDoor
