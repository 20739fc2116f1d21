/- The reference's kernel in memory, as plain numbers (Rk), how its numbers stand to those of the kernel (Rel), and its small questions: user, free, ends. -/
import Derived.Test.YtcgabodkegcpgaaGreatDoorNea
import Derived.Test.YtcgabodkegcpgaaGreatDoorLve
import Derived.Test.YtcgabodkegcpgaaGreatDoorCall
import Derived.Deep.DrawnRows
import Derived.Deep.RegionHeld3
namespace Go.Proofs.YtcgabodkegcpgaaGreatDoor
open Go.RowKit
set_option linter.unusedVariables false
set_option linter.unusedSimpArgs false
attribute [local go_sem ↓] Go.wp_at_zero Go.wp_at_succ

/-- Words of frames; processes (12 cells: kind, parent, table, code, pages, files); pipes. -/
structure Rk where
  nF : Nat
  nS : Nat
  nD : Nat
  W : Nat → Nat → Int
  P : Nat → Nat → Int
  R : Nat → Nat → Int
def Rk.setW (r : Rk) (i c : Nat) (v : Int) : Rk := { r with W := upd r.W i c v }
def Rk.setP (r : Rk) (i c : Nat) (v : Int) : Rk := { r with P := upd r.P i c v }
def Rk.setR (r : Rk) (i c : Nat) (v : Int) : Rk := { r with R := upd r.R i c v }

/-- Where it lies: the struct, words, processes; rings, heads, holds (three lists). -/
structure RB where
  b : Nat
  bw : Nat
  bp : Nat
  bq : Nat → Nat
  cw : Nat
  cp : Nat
  aq : Nat → Option Addr
  cq : Nat → Nat

structure RMem (w : World) (B : RB) (r : Rk) : Prop where
  k0 : w.cell? ⟨B.b, 0, none⟩ = some (.slice (some ⟨B.bw, 0, none⟩) r.nF B.cw)
  k1 : w.cell? ⟨B.b, 1, none⟩ = some (.slice (some ⟨B.bp, 0, none⟩) r.nS B.cp)
  k2 : ∀ q, q < 3 → w.cell? ⟨B.b, 2 + q, none⟩ = some (.slice (B.aq q) r.nD (B.cq q))
  aq : ∀ q, q < 3 → 0 < r.nD → B.aq q = some ⟨B.bq q, 0, none⟩
  wd : ∀ f j, f < r.nF → j < 4 → w.cell? ⟨B.bw, f * 4 + j, none⟩ = some (.int .i64 (r.W f j))
  pr : ∀ i c, i < r.nS → c < 12 → w.cell? ⟨B.bp, i * 12 + c, none⟩ = some (.int .i64 (r.P i c))
  rg : ∀ d q, d < r.nD → q < 3 → w.cell? ⟨B.bq q, d, none⟩ = some (.int .i64 (r.R d q))
  zw : ∀ o, w.frozen? ⟨B.bw, o, none⟩ = false
  zp : ∀ o, w.frozen? ⟨B.bp, o, none⟩ = false
  zq : ∀ q o, q < 3 → 0 < r.nD → w.frozen? ⟨B.bq q, o, none⟩ = false
  lb : B.b < w.heap.size
  lw : B.bw < w.heap.size
  lp : B.bp < w.heap.size
  lq : ∀ q, q < 3 → 0 < r.nD → B.bq q < w.heap.size
  bw : B.b ≠ B.bw
  bp : B.b ≠ B.bp
  bq : ∀ q, q < 3 → B.b ≠ B.bq q
  wp : B.bw ≠ B.bp
  wq : ∀ q, q < 3 → B.bw ≠ B.bq q
  pq : ∀ q, q < 3 → B.bp ≠ B.bq q
  qq : ∀ q q', q < 3 → q' < 3 → q ≠ q' → B.bq q ≠ B.bq q'
  hF : r.nF ≤ 32
  hS : r.nS ≤ 6
  hD : r.nD ≤ 4

section
variable {w w' : World} {B : RB} {r : Rk}
theorem RMem.setW (M : RMem w B r) {i c o : Nat} (hi : i < r.nF) (hc : c < 4) (ho : o = i * 4 + c) (v : Int) : RMem (w.setCell ⟨B.bw, o, none⟩ (.int .i64 v)) B (r.setW i c v) := by
  subst ho
  have h1 := M.bw; have h2 := M.wp
  refine ⟨?_, ?_, ?_, M.aq, ?_, ?_, ?_, ?_, ?_, ?_, ?_, ?_, ?_, ?_, M.bw, M.bp, M.bq, M.wp, M.wq, M.pq, M.qq, M.hF, M.hS, M.hD⟩
  · rw [cell_set_other w _ (by omega)]; exact M.k0
  · rw [cell_set_other w _ (by omega)]; exact M.k1
  · intro q hq; rw [cell_set_other w _ (by omega)]; exact M.k2 q hq
  · intro a b ha hb
    by_cases e : a = i ∧ b = c
    · obtain ⟨rfl, rfl⟩ := e
      rw [cell_set_same w _ (M.wd a b hi hc)]; simp [Rk.setW, upd]
    · rw [cell_set_other w _ (by omega), M.wd a b ha hb]; simp [Rk.setW, upd, e]
  · intro a b ha hb; rw [cell_set_other w _ (by omega)]; exact M.pr a b ha hb
  · intro d q hd hq; have := M.wq q hq; rw [cell_set_other w _ (by omega)]; exact M.rg d q hd hq
  · intro o; rw [frozen_setCell]; exact M.zw o
  · intro o; rw [frozen_setCell]; exact M.zp o
  · intro q o hq hd; rw [frozen_setCell]; exact M.zq q o hq hd
  · rw [size_setCell]; exact M.lb
  · rw [size_setCell]; exact M.lw
  · rw [size_setCell]; exact M.lp
  · intro q hq hd; rw [size_setCell]; exact M.lq q hq hd
theorem RMem.setP (M : RMem w B r) {i c o : Nat} (hi : i < r.nS) (hc : c < 12) (ho : o = i * 12 + c) (v : Int) : RMem (w.setCell ⟨B.bp, o, none⟩ (.int .i64 v)) B (r.setP i c v) := by
  subst ho
  have h1 := M.bp; have h2 := M.wp
  refine ⟨?_, ?_, ?_, M.aq, ?_, ?_, ?_, ?_, ?_, ?_, ?_, ?_, ?_, ?_, M.bw, M.bp, M.bq, M.wp, M.wq, M.pq, M.qq, M.hF, M.hS, M.hD⟩
  · rw [cell_set_other w _ (by omega)]; exact M.k0
  · rw [cell_set_other w _ (by omega)]; exact M.k1
  · intro q hq; rw [cell_set_other w _ (by omega)]; exact M.k2 q hq
  · intro a b ha hb; rw [cell_set_other w _ (by omega)]; exact M.wd a b ha hb
  · intro a b ha hb
    by_cases e : a = i ∧ b = c
    · obtain ⟨rfl, rfl⟩ := e
      rw [cell_set_same w _ (M.pr a b hi hc)]; simp [Rk.setP, upd]
    · rw [cell_set_other w _ (by omega), M.pr a b ha hb]; simp [Rk.setP, upd, e]
  · intro d q hd hq; have := M.pq q hq; rw [cell_set_other w _ (by omega)]; exact M.rg d q hd hq
  · intro o; rw [frozen_setCell]; exact M.zw o
  · intro o; rw [frozen_setCell]; exact M.zp o
  · intro q o hq hd; rw [frozen_setCell]; exact M.zq q o hq hd
  · rw [size_setCell]; exact M.lb
  · rw [size_setCell]; exact M.lw
  · rw [size_setCell]; exact M.lp
  · intro q hq hd; rw [size_setCell]; exact M.lq q hq hd
theorem RMem.setR (M : RMem w B r) {d q : Nat} (hd : d < r.nD) (hq : q < 3) (v : Int) : RMem (w.setCell ⟨B.bq q, d, none⟩ (.int .i64 v)) B (r.setR d q v) := by
  have h1 := M.bq q hq; have h2 := M.wq q hq; have h3 := M.pq q hq
  refine ⟨?_, ?_, ?_, M.aq, ?_, ?_, ?_, ?_, ?_, ?_, ?_, ?_, ?_, ?_, M.bw, M.bp, M.bq, M.wp, M.wq, M.pq, M.qq, M.hF, M.hS, M.hD⟩
  · rw [cell_set_other w _ (by omega)]; exact M.k0
  · rw [cell_set_other w _ (by omega)]; exact M.k1
  · intro q hq; rw [cell_set_other w _ (by omega)]; exact M.k2 q hq
  · intro a b ha hb; rw [cell_set_other w _ (by omega)]; exact M.wd a b ha hb
  · intro a b ha hb; rw [cell_set_other w _ (by omega)]; exact M.pr a b ha hb
  · intro e q' he hq'
    by_cases k : e = d ∧ q' = q
    · obtain ⟨rfl, rfl⟩ := k
      rw [cell_set_same w _ (M.rg e q' hd hq)]; simp [Rk.setR, upd]
    · have : B.bq q' ≠ B.bq q ∨ e ≠ d := by
        by_cases k2 : q' = q
        · right; intro k3; exact k ⟨k3, k2⟩
        · left; exact M.qq q' q hq' hq k2
      rw [cell_set_other w _ this, M.rg e q' he hq']; simp [Rk.setR, upd, k]
  · intro o; rw [frozen_setCell]; exact M.zw o
  · intro o; rw [frozen_setCell]; exact M.zp o
  · intro q o hq hd; rw [frozen_setCell]; exact M.zq q o hq hd
  · rw [size_setCell]; exact M.lb
  · rw [size_setCell]; exact M.lw
  · rw [size_setCell]; exact M.lp
  · intro q hq hd; rw [size_setCell]; exact M.lq q hq hd

/-- Where the blocks of the reference are the same, so is it. -/
def RB.is (B : RB) (r : Rk) (k : Nat) : Prop := k = B.b ∨ k = B.bw ∨ k = B.bp ∨ (0 < r.nD ∧ ∃ q, q < 3 ∧ k = B.bq q)
theorem RMem.same (M : RMem w B r) (hz : w.heap.size ≤ w'.heap.size) (h : ∀ k, k < w.heap.size → B.is r k → w'.heap[k]? = w.heap[k]?) : RMem w' B r := by
  have cb : ∀ o, w'.cell? ⟨B.b, o, none⟩ = w.cell? ⟨B.b, o, none⟩ := fun o => World.cell?_of_block (w := w) (a := ⟨B.b, o, none⟩) (h _ M.lb (Or.inl rfl))
  have cw : ∀ o, w'.cell? ⟨B.bw, o, none⟩ = w.cell? ⟨B.bw, o, none⟩ := fun o => World.cell?_of_block (w := w) (a := ⟨B.bw, o, none⟩) (h _ M.lw (Or.inr (Or.inl rfl)))
  have cp : ∀ o, w'.cell? ⟨B.bp, o, none⟩ = w.cell? ⟨B.bp, o, none⟩ := fun o => World.cell?_of_block (w := w) (a := ⟨B.bp, o, none⟩) (h _ M.lp (Or.inr (Or.inr (Or.inl rfl))))
  have cq : ∀ q, q < 3 → 0 < r.nD → ∀ o, w'.cell? ⟨B.bq q, o, none⟩ = w.cell? ⟨B.bq q, o, none⟩ := fun q hq hd o => World.cell?_of_block (w := w) (a := ⟨B.bq q, o, none⟩) (h _ (M.lq q hq hd) (Or.inr (Or.inr (Or.inr ⟨hd, q, hq, rfl⟩))))
  refine ⟨(cb _).trans M.k0, (cb _).trans M.k1, fun q hq => (cb _).trans (M.k2 q hq), M.aq, fun f j hf hj => (cw _).trans (M.wd f j hf hj), fun i c hi hc => (cp _).trans (M.pr i c hi hc), fun d q hd hq => (cq q hq (by omega) _).trans (M.rg d q hd hq),
    fun o => (World.frozen?_of_block (w := w) (a := ⟨B.bw, o, none⟩) (h _ M.lw (Or.inr (Or.inl rfl)))).trans (M.zw o), fun o => (World.frozen?_of_block (w := w) (a := ⟨B.bp, o, none⟩) (h _ M.lp (Or.inr (Or.inr (Or.inl rfl))))).trans (M.zp o),
    fun q o hq hd => (World.frozen?_of_block (w := w) (a := ⟨B.bq q, o, none⟩) (h _ (M.lq q hq hd) (Or.inr (Or.inr (Or.inr ⟨hd, q, hq, rfl⟩))))).trans (M.zq q o hq hd),
    Nat.lt_of_lt_of_le M.lb hz, Nat.lt_of_lt_of_le M.lw hz, Nat.lt_of_lt_of_le M.lp hz, fun q hq hd => Nat.lt_of_lt_of_le (M.lq q hq hd) hz, M.bw, M.bp, M.bq, M.wp, M.wq, M.pq, M.qq, M.hF, M.hS, M.hD⟩
theorem RMem.alloc (M : RMem w B r) (o : Obj) : RMem (w.alloc o) B r := M.same (by simp) (fun k hk _ => Below.heap_alloc w o k hk)
theorem RMem.drew (M : RMem w B r) : RMem w.drew B r := M.same (Nat.le_refl _) (fun _ _ _ => rfl)
end

/-- A page or a file as the reference keeps it: 0: none; else twice the number and 1, and 1 more if it writes. -/
def encP (f : Int) (b : Bool) : Int := if f = -1 then 0 else 2 * f + (if b then 2 else 1)
def pNum (K : Ker) (i c : Nat) : Int :=
  if c < 3 then K.S i c else if c = 3 then K.S i 19 else if c < 8 then encP (K.page i (c - 4)) (K.wr i (c - 4)) else encP (K.file i (c - 8)) (K.end i (c - 8))
structure Rel (K : Ker) (r : Rk) : Prop where
  f : r.nF = K.nF
  s : r.nS = K.nS
  d : r.nD = K.nD
  p : ∀ i c, i < K.nS → c < 12 → r.P i c = pNum K i c
  w : ∀ g j, g < K.nF → j < 4 → (K.F g 0 = 2 ∨ K.F g 0 = 3) → r.W g j = K.F g (2 + j)
  q : ∀ e q, e < K.nD → q < 3 → r.R e q = K.D e q
theorem encP_none (b : Bool) : encP (-1) b = 0 := by simp [encP]
theorem encP_some (n : Nat) (b : Bool) : encP n b = 2 * (n : Int) + (if b then 2 else 1) := by unfold encP; rw [if_neg (by omega)]
theorem Rel.kind {K : Ker} {r : Rk} (U : Rel K r) {i : Nat} (hi : i < K.nS) : r.P i 0 = K.S i 0 := U.p i 0 hi (by omega)
theorem Rel.parent {K : Ker} {r : Rk} (U : Rel K r) {i : Nat} (hi : i < K.nS) : r.P i 1 = K.S i 1 := U.p i 1 hi (by omega)
theorem Rel.table {K : Ker} {r : Rk} (U : Rel K r) {i : Nat} (hi : i < K.nS) : r.P i 2 = K.S i 2 := U.p i 2 hi (by omega)
theorem Rel.code {K : Ker} {r : Rk} (U : Rel K r) {i : Nat} (hi : i < K.nS) : r.P i 3 = K.S i 19 := U.p i 3 hi (by omega)
theorem Rel.page {K : Ker} {r : Rk} (U : Rel K r) {i p : Nat} (hi : i < K.nS) (hp : p < 4) : r.P i (4 + p) = encP (K.page i p) (K.wr i p) := by
  rw [U.p i (4 + p) hi (by omega)]
  unfold pNum
  rw [if_neg (by omega), if_neg (by omega), if_pos (by omega), show 4 + p - 4 = p by omega]
theorem Rel.file {K : Ker} {r : Rk} (U : Rel K r) {i x : Nat} (hi : i < K.nS) (hx : x < 4) : r.P i (8 + x) = encP (K.file i x) (K.end i x) := by
  rw [U.p i (8 + x) hi (by omega)]
  unfold pNum
  rw [if_neg (by omega), if_neg (by omega), if_neg (by omega), show 8 + x - 8 = x by omega]

/-- Half of what stands for a page. -/
theorem half_enc (n : Nat) (b : Bool) : (2 * (n : Int) + (if b then 2 else 1) - 1).tdiv 2 = n := by
  cases b
  · simp only [Bool.false_eq_true, if_false]
    rw [show (2 * (n : Int) + 1 - 1) = 2 * n by omega, Int.mul_comm, Int.mul_tdiv_cancel _ (by omega)]
  · simp only [if_true]
    rw [show (2 * (n : Int) + 2 - 1) = ((2 * n + 1 : Nat) : Int) by omega, show (2 : Int) = ((2 : Nat) : Int) by rfl, ← Int.ofNat_tdiv]
    congr 1
    omega

set_option maxHeartbeats 2000000 in
theorem user_rep {w : World} {B : RB} {r : Rk} {K : Ker} (M : RMem w B r) (U : Rel K r) (O : Own K) (N : Neat K) (G : Good K) {f : Nat} (hf : f < K.nF) :
    Calls Tryz.prog 81 #[.pointer (some ⟨B.b, 0, none⟩), .int .i64 f] w fun e w' => e = .returned (.tuple #[.int .i64 (K.F f 0), .int .i64 (K.F f 1)]) ∧ w' = w := by
  have HM : Hid (RMem w B r) := M
  have HU : Hid (Rel K r) := U
  have k1 := M.k1
  have k2 := M.k2 0 (by omega)
  have hS : r.nS ≤ 6 := M.hS
  have hD : r.nD ≤ 4 := M.hD
  have hF : f < 32 := by have := M.hF; have := U.f; omega
  have ES : Hid (r.nS = K.nS ∧ r.nD = K.nD) := ⟨U.s, U.d⟩
  clear M U
  go_enter Tryz.func81, Tryz.ntmps81
  go_wp2
  go_loop [6] (fun i => ∃ k : Nat, k ≤ r.nS ∧ i = .int .i64 k ∧ ∀ i, i < k → K.loc (.tab i) ≠ f ∧ ∀ p, p < 4 → K.page i p ≠ f) (fun i => r.nS - (intOf i).toNat)
  case atStart => exact ⟨0, by omega, rfl, fun i hi => by omega⟩
  case round =>
    obtain ⟨k, hk, rfl, hno⟩ := hrel
    have Hno : Hid (∀ i, i < k → K.loc (.tab i) ≠ f ∧ ∀ p, p < 4 → K.page i p ≠ f) := hno
    clear hno
    by_cases hlt : k < r.nS
    · have HK : Hid (k < K.nS) := by unfold Hid; have := ES.out; omega
      have i1 : (0 : Int) ≤ (k : Int) := by omega
      have i2 : (k : Int) < (r.nS : Int) := by omega
      have t1 : w.cell? ⟨B.bp, k * 12 + 2, none⟩ = some (.int .i64 (r.P k 2)) := HM.out.pr k 2 hlt (by omega)
      by_cases ht : r.P k 2 = f
      · have HE : Hid (K.F f 0 = 1 ∧ K.F f 1 = k) := by
          rw [HU.out.table HK.out] at ht
          have h0 : K.S k 0 ≠ 0 := fun h => by have := N.table HK.out h; omega
          have : K.loc (.tab k) = f := by show (if K.S k 0 = 0 then (-1 : Int) else K.S k 2) = f; rw [if_neg h0, ht]
          exact O.what (.tab k) HK.out f this
        rw [ht] at t1
        clear ht
        go_wp2
        go_ret2
        exact ⟨by rw [HE.out.1, HE.out.2]; rfl, rfl⟩
      · have e1 : (r.P k 2 == (f : Int)) = false := by simpa using ht
        have HL : Hid (K.loc (.tab k) ≠ f) := by
          show (if K.S k 0 = 0 then (-1 : Int) else K.S k 2) ≠ f
          split
          · omega
          · rw [← HU.out.table HK.out]; exact ht
        clear ht
        generalize r.P k 2 = v2 at *
        go_wp2
        go_loop [7] (fun j => ∃ m : Nat, m ≤ 4 ∧ j = .int .i64 m ∧ ∀ p, p < m → K.page k p ≠ f) (fun j => 4 - (intOf j).toNat)
        case atStart => exact ⟨0, by omega, rfl, fun p hp => by omega⟩
        case round =>
          obtain ⟨m, hm, rfl, hpn⟩ := hrel
          have Hpn : Hid (∀ p, p < m → K.page k p ≠ f) := hpn
          clear hpn
          by_cases hm4 : m < 4
          · have j1 : (0 : Int) ≤ (m : Int) := by omega
            have j2 : (m : Int) < 4 := by omega
            have c1 : w.cell? ⟨B.bp, k * 12 + 4 + m, none⟩ = some (.int .i64 (r.P k (4 + m))) := by rw [Nat.add_assoc]; exact HM.out.pr k (4 + m) hlt (by omega)
            have hv := HU.out.page HK.out hm4
            have hg := G.page k m HK.out hm4
            by_cases hpg : K.page k m = -1
            · rw [hv, hpg, encP_none] at c1
              have Hq : Hid (K.page k m ≠ f) := by unfold Hid; omega
              clear hv hpg hg
              go_wp2
              exact ⟨⟨m + 1, by omega, by go_num, fun p hp => by by_cases e : p = m; rw [e]; exact Hq.out; exact Hpn.out p (by omega)⟩, by simp [intOf]; omega⟩
            · obtain ⟨n, hn⟩ : ∃ n : Nat, K.page k m = n := ⟨(K.page k m).toNat, by omega⟩
              have hn32 : n < 32 := by have := HM.out.hF; have := HU.out.f; omega
              rw [hv, hn, encP_some] at c1
              have hq := half_enc n (K.wr k m)
              obtain ⟨v, hv1, hv2, hv3⟩ : ∃ v : Int, v = 2 * (n : Int) + (if K.wr k m then 2 else 1) ∧ 0 < v ∧ v < 100 := ⟨_, rfl, by split <;> omega, by split <;> omega⟩
              rw [← hv1] at c1 hq
              have Hn : Hid (K.page k m = n) := hn
              clear hv hpg hg hn hv1
              by_cases hnf : n = f
              · subst hnf
                have HE : Hid (K.F n 0 = 2 ∧ K.F n 1 = k) := O.what (.page k m) ⟨HK.out, hm4⟩ n Hn.out
                go_wp2
                go_ret2
                exact ⟨by rw [HE.out.1, HE.out.2]; rfl, rfl⟩
              · have e2 : ((n : Int) == (f : Int)) = false := by simp; omega
                have Hq : Hid (K.page k m ≠ f) := by unfold Hid; rw [Hn.out]; omega
                go_wp2
                exact ⟨⟨m + 1, by omega, by go_num, fun p hp => by by_cases e : p = m; rw [e]; exact Hq.out; exact Hpn.out p (by omega)⟩, by simp [intOf]; omega⟩
          · obtain rfl : m = 4 := by omega
            go_wp2
            exact ⟨⟨k + 1, by omega, by go_num, fun i hi => by by_cases e : i = k; rw [e]; exact ⟨HL.out, Hpn.out⟩; exact Hno.out i (by omega)⟩, by simp [intOf]; omega⟩
    · obtain rfl : k = r.nS := by omega
      go_wp2
      go_loop [8] (fun j => ∃ m : Nat, m ≤ r.nD ∧ j = .int .i64 m ∧ ∀ d, d < m → K.D d 0 ≠ f) (fun j => r.nD - (intOf j).toNat)
      case atStart => exact ⟨0, by omega, rfl, fun p hp => by omega⟩
      case round =>
        obtain ⟨m, hm, rfl, hpn⟩ := hrel
        have Hpn : Hid (∀ d, d < m → K.D d 0 ≠ f) := hpn
        clear hpn
        by_cases hmd : m < r.nD
        · have j1 : (0 : Int) ≤ (m : Int) := by omega
          have j2 : (m : Int) < (r.nD : Int) := by omega
          have ha := HM.out.aq 0 (by omega) (by omega)
          have c1 : w.cell? ⟨B.bq 0, m, none⟩ = some (.int .i64 (r.R m 0)) := HM.out.rg m 0 hmd (by omega)
          have hv : r.R m 0 = K.D m 0 := HU.out.q m 0 (by have := ES.out; omega) (by omega)
          rw [hv] at c1
          rw [ha] at k2
          by_cases hd : K.D m 0 = f
          · have HE : Hid (K.F f 0 = 3 ∧ K.F f 1 = -1) := O.what (.ring m) (show m < K.nD by have := ES.out; omega) f hd
            rw [hd] at c1
            clear hd hv ha
            go_wp2
            go_ret2
            exact ⟨by rw [HE.out.1, HE.out.2]; rfl, rfl⟩
          · have e2 : (K.D m 0 == (f : Int)) = false := by simpa using hd
            have Hq : Hid (K.D m 0 ≠ f) := hd
            clear hd hv ha
            obtain ⟨vv, hvv⟩ : ∃ vv, K.D m 0 = vv := ⟨_, rfl⟩
            rw [hvv] at c1 e2
            clear hvv
            go_wp2
            exact ⟨⟨m + 1, by omega, by go_num, fun p hp => by by_cases e : p = m; rw [e]; exact Hq.out; exact Hpn.out p (by omega)⟩, by simp [intOf]; omega⟩
        · obtain rfl : m = r.nD := by omega
          have HE : Hid (K.F f 0 = 0 ∧ K.F f 1 = -1) := by
            have h0 : K.F f 0 = 0 := by
              apply Classical.byContradiction
              intro h
              obtain ⟨x, hx, hl⟩ := O.all f hf h
              have es := ES.out
              cases x with
              | tab i => exact (Hno.out i (by have : i < K.nS := hx; omega)).1 hl
              | page i p => exact (Hno.out i (by have : i < K.nS := hx.1; omega)).2 p hx.2 hl
              | ring d => exact Hpn.out d (by have : d < K.nD := hx; omega) hl
            exact ⟨h0, N.fre f h0⟩
          go_wp2
          go_ret2
          exact ⟨by rw [HE.out.1, HE.out.2]; rfl, rfl⟩

theorem free_rep {w : World} {B : RB} {r : Rk} {K : Ker} (M : RMem w B r) (U : Rel K r) (O : Own K) (N : Neat K) (G : Good K) {f : Nat} (hf : f < K.nF) :
    Calls Tryz.prog 78 #[.pointer (some ⟨B.b, 0, none⟩), .int .i64 f] w fun e w' => e = .returned (.bool (K.F f 0 == 0)) ∧ w' = w := by
  go_enter Tryz.func78, Tryz.ntmps78
  go_wp2_with fail
  refine (user_rep M U O N G hf).mono ?_
  rintro e w1 ⟨rfl, rfl⟩
  go_wp2
  go_ret
  exact ⟨rfl, rfl⟩

set_option maxHeartbeats 2000000 in
theorem ends_by {w : World} {B : RB} {r : Rk} {K : Ker} (M : RMem w B r) (us : r.nS = K.nS) (uf : ∀ i x, i < K.nS → x < 4 → r.P i (8 + x) = encP (K.file i x) (K.end i x)) (gf : ∀ i x, i < K.nS → x < 4 → K.file i x = -1 ∨ 0 ≤ K.file i x) {d : Nat} (hd : d < 4) (b : Bool) :
    Calls Tryz.prog 80 #[.pointer (some ⟨B.b, 0, none⟩), .int .i64 d, .bool b] w fun e w' => e = .returned (.int .i64 (K.ends d b)) ∧ w' = w := by
  have HM : Hid (RMem w B r) := M
  have HU : Hid (∀ i x, i < K.nS → x < 4 → r.P i (8 + x) = encP (K.file i x) (K.end i x)) := uf
  have k1 := M.k1
  have hS : r.nS ≤ 6 := M.hS
  have ES : Hid (r.nS = K.nS) := us
  have EN : Hid (K.ends d b = countTo (K.isEnd d b) (K.nS * 4)) := rfl
  have CL : ∀ n, countTo (K.isEnd d b) n ≤ n := countTo_le _
  have CS : Hid (∀ k m, k < K.nS → m < 4 → countTo (K.isEnd d b) (k * 4 + m + 1) = countTo (K.isEnd d b) (k * 4 + m) + (if K.file k m = d ∧ K.end k m = b then 1 else 0)) := fun k m _ hm => by
    show countTo (K.isEnd d b) (k * 4 + m) + (if K.isEnd d b (k * 4 + m) then 1 else 0) = _
    congr 1
    unfold Ker.isEnd
    rw [show (k * 4 + m) / 4 = k by omega, show (k * 4 + m) % 4 = m by omega]
    by_cases h : K.file k m = d ∧ K.end k m = b
    · rw [if_pos h, if_pos (by simp [h.1, h.2])]
    · rw [if_neg h, if_neg (by simpa using h)]
  obtain ⟨C, hC⟩ : ∃ C, C = countTo (K.isEnd d b) := ⟨_, rfl⟩
  rw [← hC] at EN CL CS
  have C0 : C 0 = 0 := by rw [hC]; rfl
  obtain ⟨wt, hwt⟩ : ∃ wt : Int, wt = 2 * (d : Int) + (if b then 2 else 1) := ⟨_, rfl⟩
  have HW : Hid (wt = 2 * (d : Int) + (if b then 2 else 1)) := hwt
  have HG : Hid (∀ i x, i < K.nS → x < 4 → K.file i x = -1 ∨ 0 ≤ K.file i x) := gf
  clear M us uf gf hC hwt
  go_enter Tryz.func80, Tryz.ntmps80
  have key : ∀ k m : Nat, k < K.nS → m < 4 → (encP (K.file k m) (K.end k m) = wt ↔ (K.file k m = d ∧ K.end k m = b)) := fun k m hk hm => by
    have hg := HG.out k m hk hm
    rw [HW.out]
    by_cases h : K.file k m = -1
    · rw [h, encP_none]
      constructor
      · intro h'; split at h' <;> omega
      · intro h'; omega
    · obtain ⟨n, hn⟩ : ∃ n : Nat, K.file k m = n := ⟨(K.file k m).toNat, by omega⟩
      rw [hn, encP_some]
      generalize K.end k m = b'
      cases b <;> cases b' <;> simp <;> omega
  have Hkey : Hid (∀ k m : Nat, k < K.nS → m < 4 → (encP (K.file k m) (K.end k m) = wt ↔ (K.file k m = d ∧ K.end k m = b))) := key
  clear key
  have W2 : Hid (wt = 2 * (d : Int) + 1 ∨ wt = 2 * (d : Int) + 1 + 1) := by
    unfold Hid; rw [HW.out]; cases b
    · exact Or.inl rfl
    · right; simp; omega
  cases b
  · have hwv : wt = 2 * (d : Int) + 1 := HW.out
    rw [hwv] at Hkey
    go_wp2
    go_loop [8, 9] (fun nv i => ∃ k : Nat, k ≤ r.nS ∧ i = .int .i64 k ∧ nv = .int .i64 (C (k * 4))) (fun nv i => r.nS - (intOf i).toNat)
    case atStart => exact ⟨0, by omega, rfl, by rw [Nat.zero_mul, C0]; rfl⟩
    case round =>
      obtain ⟨k, hk, rfl, rfl⟩ := hrel
      by_cases hlt : k < r.nS
      · have HK : Hid (k < K.nS) := by unfold Hid; have := ES.out; omega
        have i1 : (0 : Int) ≤ (k : Int) := by omega
        have i2 : (k : Int) < (r.nS : Int) := by omega
        go_wp2
        go_loop [8, 10] (fun nv j => ∃ m : Nat, m ≤ 4 ∧ j = .int .i64 m ∧ nv = .int .i64 (C (k * 4 + m))) (fun nv j => 4 - (intOf j).toNat)
        case atStart => exact ⟨0, by omega, rfl, rfl⟩
        case round =>
          obtain ⟨m, hm, rfl, rfl⟩ := hrel
          by_cases hm4 : m < 4
          · have j1 : (0 : Int) ≤ (m : Int) := by omega
            have j2 : (m : Int) < 4 := by omega
            have c1 : w.cell? ⟨B.bp, k * 12 + 8 + m, none⟩ = some (.int .i64 (r.P k (8 + m))) := by rw [Nat.add_assoc]; exact HM.out.pr k (8 + m) hlt (by omega)
            rw [HU.out k m HK.out hm4] at c1
            have hs := CS.out k m HK.out hm4
            have hb := CL (k * 4 + m)
            have hky := Hkey.out k m HK.out hm4
            generalize encP (K.file k m) (K.end k m) = v at *
            by_cases h : v = 2 * (d : Int) + 1
            · rw [if_pos (hky.1 h)] at hs
              subst h
              have Hs : Hid (C (k * 4 + m + 1) = C (k * 4 + m) + 1) := hs
              clear hs hky
              generalize C (k * 4 + m) = cc at *
              go_wp2
              exact ⟨⟨m + 1, by omega, by go_num, by rw [← Nat.add_assoc, Hs.out]; go_num⟩, by simp [intOf]; omega⟩
            · rw [if_neg (fun h' => h (hky.2 h'))] at hs
              have e1 : (v == 2 * (d : Int) + 1) = false := by simpa using h
              have Hs : Hid (C (k * 4 + m + 1) = C (k * 4 + m)) := by unfold Hid; omega
              clear hs hky h
              go_wp2
              exact ⟨⟨m + 1, by omega, by go_num, by rw [← Nat.add_assoc, Hs.out]⟩, by simp [intOf]; omega⟩
          · obtain rfl : m = 4 := by omega
            go_wp2
            exact ⟨⟨k + 1, by omega, by go_num, by rw [Nat.add_mul]⟩, by simp [intOf]; omega⟩
      · obtain rfl : k = r.nS := by omega
        go_wp2
        go_ret
        exact ⟨by rw [EN.out, ← ES.out]; rfl, rfl⟩
  · have hwv : wt = 2 * (d : Int) + 1 + 1 := by have := HW.out; simp at this; omega
    rw [hwv] at Hkey
    go_wp2
    go_loop [8, 9] (fun nv i => ∃ k : Nat, k ≤ r.nS ∧ i = .int .i64 k ∧ nv = .int .i64 (C (k * 4))) (fun nv i => r.nS - (intOf i).toNat)
    case atStart => exact ⟨0, by omega, rfl, by rw [Nat.zero_mul, C0]; rfl⟩
    case round =>
      obtain ⟨k, hk, rfl, rfl⟩ := hrel
      by_cases hlt : k < r.nS
      · have HK : Hid (k < K.nS) := by unfold Hid; have := ES.out; omega
        have i1 : (0 : Int) ≤ (k : Int) := by omega
        have i2 : (k : Int) < (r.nS : Int) := by omega
        go_wp2
        go_loop [8, 10] (fun nv j => ∃ m : Nat, m ≤ 4 ∧ j = .int .i64 m ∧ nv = .int .i64 (C (k * 4 + m))) (fun nv j => 4 - (intOf j).toNat)
        case atStart => exact ⟨0, by omega, rfl, rfl⟩
        case round =>
          obtain ⟨m, hm, rfl, rfl⟩ := hrel
          by_cases hm4 : m < 4
          · have j1 : (0 : Int) ≤ (m : Int) := by omega
            have j2 : (m : Int) < 4 := by omega
            have c1 : w.cell? ⟨B.bp, k * 12 + 8 + m, none⟩ = some (.int .i64 (r.P k (8 + m))) := by rw [Nat.add_assoc]; exact HM.out.pr k (8 + m) hlt (by omega)
            rw [HU.out k m HK.out hm4] at c1
            have hs := CS.out k m HK.out hm4
            have hb := CL (k * 4 + m)
            have hky := Hkey.out k m HK.out hm4
            generalize encP (K.file k m) (K.end k m) = v at *
            by_cases h : v = 2 * (d : Int) + 1 + 1
            · rw [if_pos (hky.1 h)] at hs
              subst h
              have Hs : Hid (C (k * 4 + m + 1) = C (k * 4 + m) + 1) := hs
              clear hs hky
              generalize C (k * 4 + m) = cc at *
              go_wp2
              exact ⟨⟨m + 1, by omega, by go_num, by rw [← Nat.add_assoc, Hs.out]; go_num⟩, by simp [intOf]; omega⟩
            · rw [if_neg (fun h' => h (hky.2 h'))] at hs
              have e1 : (v == 2 * (d : Int) + 1 + 1) = false := by simpa using h
              have Hs : Hid (C (k * 4 + m + 1) = C (k * 4 + m)) := by unfold Hid; omega
              clear hs hky h
              go_wp2
              exact ⟨⟨m + 1, by omega, by go_num, by rw [← Nat.add_assoc, Hs.out]⟩, by simp [intOf]; omega⟩
          · obtain rfl : m = 4 := by omega
            go_wp2
            exact ⟨⟨k + 1, by omega, by go_num, by rw [Nat.add_mul]⟩, by simp [intOf]; omega⟩
      · obtain rfl : k = r.nS := by omega
        go_wp2
        go_ret
        exact ⟨by rw [EN.out, ← ES.out]; rfl, rfl⟩
theorem ends_rep {w : World} {B : RB} {r : Rk} {K : Ker} (M : RMem w B r) (U : Rel K r) (G : Good K) {d : Nat} (hd : d < 4) (b : Bool) :
    Calls Tryz.prog 80 #[.pointer (some ⟨B.b, 0, none⟩), .int .i64 d, .bool b] w fun e w' => e = .returned (.int .i64 (K.ends d b)) ∧ w' = w :=
  ends_by M U.s (fun i x hi hx => U.file hi hx) (fun i x hi hx => by rcases G.file i x hi hx with h | h; exact Or.inl h; exact Or.inr h.1) hd b
end Go.Proofs.YtcgabodkegcpgaaGreatDoor
