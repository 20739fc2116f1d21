/- Plain facts for Passes: one process with a page and both ends of a pipe: what Store, Write, Read and Load come to, by what the pipe holds. -/
import Derived.Test.YtcgabodkegcpgaaDoorInv1
namespace Go.Proofs.YtcgabodkegcpgaaDoor
set_option linter.unusedVariables false

structure PInv (K : Ker) (xs : List Int) : Prop where
  good : Good K
  nF : K.nF = 4
  nS : K.nS = 1
  nD : K.nD = 1
  rdy : K.S 0 0 = 2
  page : K.page 0 0 = 1
  wr : K.wr 0 0 = true
  f0 : K.file 0 0 = 0
  e0 : K.end 0 0 = false
  f1 : K.file 0 1 = 0
  e1 : K.end 0 1 = true
  fr : K.D 0 0 = 2
  rd : K.D 0 3 = 1
  wt : K.D 0 4 = 1
  len : K.D 0 2 = xs.length
  le : xs.length ≤ 4
  h0 : 0 ≤ K.D 0 1
  h4 : K.D 0 1 < 4
  ring : ∀ i, i < xs.length → K.F 2 (2 + ((K.D 0 1).toNat + i) % 4) = xs.getD i 0

/-- A call of the process 0 that is there, at numbers that are ones. -/
theorem call_is {K : Ker} {xs : List Int} (P : PInv K xs) (call a b c : Int) (h : 0 < call ∧ call < 20)
    (hf : fits K ((argKinds call.toNat).getD 0 0) a = true ∧ fits K ((argKinds call.toNat).getD 1 0) b = true ∧ fits K ((argKinds call.toNat).getD 2 0) c = true) :
    kCall K 0 call a b c = kDo K 0 call.toNat a b c := by
  unfold kCall
  have := P.nS
  have hr : K.S (0 : Int).toNat 0 = 2 := P.rdy
  rw [if_neg (by omega), if_neg (by rw [hr]; omega), if_neg (by rw [hf.1, hf.2.1, hf.2.2]; simp)]
  rfl

theorem fits4 (K : Ker) (a : Int) (h : 0 ≤ a ∧ a < 4) : fits K 4 a = true := by unfold fits howMany; simp; omega
theorem fits5 (K : Ker) (a : Int) (h : 0 ≤ a ∧ a < 4) : fits K 5 a = true := by unfold fits howMany; simp; omega
theorem fits6 (K : Ker) (a : Int) (h : 0 ≤ a ∧ a < 4) : fits K 6 a = true := by unfold fits howMany; simp; omega
theorem fits0 (K : Ker) (a : Int) : fits K 0 a = true := by unfold fits; simp

theorem p_store {K : Ker} {xs : List Int} (P : PInv K xs) (v : Int) : kCall K 0 19 0 1 v = ⟨K.setF 1 3 v, 0, 0⟩ := by
  rw [call_is P 19 0 1 v (by omega) ⟨fits4 K 0 (by omega), fits6 K 1 (by omega), fits0 K v⟩]
  show kStore K 0 0 1 v = _
  unfold kStore
  rw [if_neg (by rw [P.wr]; simp), P.page]
  rfl
theorem p_stored {K : Ker} {xs : List Int} (P : PInv K xs) (c : Nat) (v : Int) : PInv (K.setF 1 c v) xs :=
  ⟨good_setF P.good 1 c v, P.nF, P.nS, P.nD, P.rdy, P.page, P.wr, P.f0, P.e0, P.f1, P.e1, P.fr, P.rd, P.wt, P.len, P.le, P.h0, P.h4, fun i hi => by
    rw [← P.ring i hi]; exact upd_other K.F 1 c v 2 _ (by omega)⟩

theorem p_full {K : Ker} {xs : List Int} (P : PInv K xs) (h : xs.length = 4) : kCall K 0 16 1 0 1 = ⟨K, 0, 11⟩ := by
  rw [call_is P 16 1 0 1 (by omega) ⟨fits5 K 1 (by omega), fits4 K 0 (by omega), fits6 K 1 (by omega)⟩]
  show kWrite K 0 1 0 1 = _
  unfold kWrite
  have hl := P.len
  rw [P.f1, P.e1, P.page]
  rw [if_neg (by simp), if_neg (by omega)]
  show (if K.D 0 3 = 0 then _ else if K.D 0 2 = 4 then _ else _) = _
  rw [P.rd, if_neg (by omega), if_pos (by omega)]

theorem p_write {K : Ker} {xs : List Int} (P : PInv K xs) (h : xs.length < 4) : ∃ K', kCall K 0 16 1 0 1 = ⟨K', 0, 0⟩ ∧ PInv K' (xs ++ [K.F 1 3]) := by
  obtain ⟨q, hq⟩ : ∃ q : Nat, K.D 0 1 = q := ⟨(K.D 0 1).toNat, by have := P.h0; omega⟩
  have hl := P.len
  refine ⟨(K.setF 2 (2 + (q + xs.length) % 4) (K.F 1 3)).setD 0 2 (xs.length + 1), ?_, ?_⟩
  · rw [call_is P 16 1 0 1 (by omega) ⟨fits5 K 1 (by omega), fits4 K 0 (by omega), fits6 K 1 (by omega)⟩]
    show kWrite K 0 1 0 1 = _
    unfold kWrite
    rw [P.f1, P.e1, P.page]
    rw [if_neg (by simp), if_neg (by omega)]
    show (if K.D 0 3 = 0 then _ else if K.D 0 2 = 4 then _ else (⟨(K.setF (K.D 0 0).toNat (2 + ((K.D 0 1 + K.D 0 2) % 4).toNat) (K.F 1 (2 + 1))).setD 0 2 (K.D 0 2 + 1), 0, 0⟩ : Out)) = _
    rw [P.rd, if_neg (by omega), if_neg (by omega), P.fr, hq, hl, show (((q : Int) + (xs.length : Int)) % 4).toNat = (q + xs.length) % 4 by omega]
    rfl
  · have hD : ∀ c, c ≠ 2 → ((K.setF 2 (2 + (q + xs.length) % 4) (K.F 1 3)).setD 0 2 (xs.length + 1)).D 0 c = K.D 0 c := fun c hc => upd_other _ _ _ _ _ _ (by omega)
    have h4 := P.h4
    refine ⟨good_setD (good_setF P.good _ _ _) 0 2 _ (by omega), P.nF, P.nS, P.nD, P.rdy, P.page, P.wr, P.f0, P.e0, P.f1, P.e1, by rw [hD 0 (by omega)]; exact P.fr, by rw [hD 3 (by omega)]; exact P.rd, by rw [hD 4 (by omega)]; exact P.wt, ?_, by simp; omega, by rw [hD 1 (by omega)]; exact P.h0, by rw [hD 1 (by omega)]; exact P.h4, ?_⟩
    · show upd K.D 0 2 ((xs.length : Int) + 1) 0 2 = _
      rw [upd_same]; simp
    · intro i hi
      rw [hD 1 (by omega), hq]
      simp only [List.length_append, List.length_cons, List.length_nil] at hi
      show upd K.F 2 (2 + (q + xs.length) % 4) (K.F 1 3) 2 (2 + ((q : Int).toNat + i) % 4) = _
      by_cases e : i = xs.length
      · subst e
        rw [show ((q : Int).toNat + xs.length) % 4 = (q + xs.length) % 4 by rw [Int.toNat_natCast], upd_same]
        simp
      · have hne : (q + i) % 4 ≠ (q + xs.length) % 4 := by omega
        rw [upd_other _ _ _ _ _ _ (by rw [Int.toNat_natCast]; omega)]
        have := P.ring i (by omega)
        rw [hq] at this
        rw [this, List.getD_eq_getElem?_getD, List.getD_eq_getElem?_getD, List.getElem?_append_left (by omega)]

theorem p_empty {K : Ker} (P : PInv K []) : kCall K 0 17 0 0 2 = ⟨K, 0, 11⟩ := by
  rw [call_is P 17 0 0 2 (by omega) ⟨fits5 K 0 (by omega), fits4 K 0 (by omega), fits6 K 2 (by omega)⟩]
  show kRead K 0 0 0 2 = _
  unfold kRead
  have hl : K.D 0 2 = 0 := P.len
  rw [P.f0, P.e0, P.wr]
  rw [if_neg (by simp), if_neg (by simp)]
  show (if K.D 0 2 = 0 ∧ K.D 0 4 = 0 then _ else if K.D 0 2 = 0 then _ else _) = _
  rw [if_neg (by rw [P.wt]; omega), if_pos hl]

theorem p_read {K : Ker} {x : Int} {xs : List Int} (P : PInv K (x :: xs)) : ∃ K', kCall K 0 17 0 0 2 = ⟨K', 0, 0⟩ ∧ PInv K' xs ∧ K'.F 1 4 = x := by
  obtain ⟨q, hq⟩ : ∃ q : Nat, K.D 0 1 = q := ⟨(K.D 0 1).toNat, by have := P.h0; omega⟩
  have hl : K.D 0 2 = (xs.length + 1 : Nat) := P.len
  have hle : xs.length + 1 ≤ 4 := P.le
  have h4 := P.h4
  have hx : K.F 2 (2 + q) = x := by
    have := P.ring 0 (by simp)
    rw [hq, Int.toNat_natCast, show (q + 0) % 4 = q by omega] at this
    rw [this]; rfl
  refine ⟨((K.setF 1 4 x).setD 0 1 (((q + 1) % 4 : Nat) : Int)).setD 0 2 (xs.length : Int), ?_, ?_, ?_⟩
  · rw [call_is P 17 0 0 2 (by omega) ⟨fits5 K 0 (by omega), fits4 K 0 (by omega), fits6 K 2 (by omega)⟩]
    show kRead K 0 0 0 2 = _
    unfold kRead
    rw [P.f0, P.e0, P.wr, P.page]
    rw [if_neg (by simp), if_neg (by simp)]
    show (if K.D 0 2 = 0 ∧ K.D 0 4 = 0 then _ else if K.D 0 2 = 0 then _ else (⟨((K.setF 1 (2 + 2) (K.F (K.D 0 0).toNat (2 + (K.D 0 1).toNat))).setD 0 1 ((K.D 0 1 + 1) % 4)).setD 0 2 (K.D 0 2 - 1), 0, 0⟩ : Out)) = _
    rw [if_neg (by omega), if_neg (by omega), P.fr, hq, hl, Int.toNat_natCast, show ((q : Int) + 1) % 4 = (((q + 1) % 4 : Nat) : Int) by omega, show (((xs.length + 1 : Nat) : Int) - 1) = xs.length by omega]
    show (⟨((K.setF 1 4 (K.F 2 (2 + q))).setD 0 1 _).setD 0 2 _, 0, 0⟩ : Out) = _
    rw [hx]
  · have hD : ∀ c, c ≠ 1 → c ≠ 2 → (((K.setF 1 4 x).setD 0 1 (((q + 1) % 4 : Nat) : Int)).setD 0 2 (xs.length : Int)).D 0 c = K.D 0 c := fun c h1 h2 => by
      show upd (upd K.D 0 1 (((q + 1) % 4 : Nat) : Int)) 0 2 (xs.length : Int) 0 c = _
      rw [upd_other _ _ _ _ _ _ (by omega), upd_other _ _ _ _ _ _ (by omega)]
    have hD1 : (((K.setF 1 4 x).setD 0 1 (((q + 1) % 4 : Nat) : Int)).setD 0 2 (xs.length : Int)).D 0 1 = (((q + 1) % 4 : Nat) : Int) := by
      show upd (upd K.D 0 1 (((q + 1) % 4 : Nat) : Int)) 0 2 (xs.length : Int) 0 1 = _
      rw [upd_other _ _ _ _ _ _ (by omega), upd_same]
    refine ⟨good_setD (good_setD (good_setF P.good _ _ _) 0 1 _ (by omega)) 0 2 _ (by omega), P.nF, P.nS, P.nD, P.rdy, P.page, P.wr, P.f0, P.e0, P.f1, P.e1, by rw [hD 0 (by omega) (by omega)]; exact P.fr, by rw [hD 3 (by omega) (by omega)]; exact P.rd, by rw [hD 4 (by omega) (by omega)]; exact P.wt, ?_, by omega, by rw [hD1]; omega, by rw [hD1]; omega, ?_⟩
    · show upd (upd K.D 0 1 (((q + 1) % 4 : Nat) : Int)) 0 2 (xs.length : Int) 0 2 = _
      rw [upd_same]
    · intro i hi
      rw [hD1, Int.toNat_natCast]
      show upd K.F 1 4 x 2 _ = _
      rw [upd_other _ _ _ _ _ _ (by omega)]
      have := P.ring (i + 1) (by simp; omega)
      rw [hq, Int.toNat_natCast] at this
      rw [show ((q + 1) % 4 + i) % 4 = (q + (i + 1)) % 4 by omega, this]
      rfl
  · show upd K.F 1 4 x 1 4 = x
    rw [upd_same]

theorem p_load {K : Ker} {xs : List Int} (P : PInv K xs) : kCall K 0 18 0 2 0 = ⟨K, K.F 1 4, 0⟩ := by
  rw [call_is P 18 0 2 0 (by omega) ⟨fits4 K 0 (by omega), fits6 K 2 (by omega), fits0 K 0⟩]
  show kLoad K 0 0 2 = _
  unfold kLoad
  rw [P.page, if_neg (by omega)]
  rfl

def pK1 : Ker := (kMap (kNew 4 1 1) 0 0 1).K
def pK2 : Ker := (kPipe pK1 0 0 2 0).K
theorem pE1 : kCall (kNew 4 1 1) 0 2 0 1 0 = ⟨pK1, 0, 0⟩ := rfl
theorem pE2 : kCall pK1 0 13 0 2 0 = ⟨pK2, 0, 0⟩ := rfl
theorem pG0 : Good (kNew 4 1 1) := good_new 4 1 1 (by omega)
theorem pG1 : Good pK1 := good_map pG0 (by omega) (by show 1 < 4; omega)
theorem pG2 : Good pK2 := good_pipe pG1 (by show 0 < 1; omega) (by show 2 < 4; omega) (by omega)
theorem pInit : PInv pK2 [] := ⟨pG2, rfl, rfl, rfl, rfl, rfl, rfl, rfl, rfl, rfl, rfl, rfl, rfl, rfl, rfl, by simp, by show (0 : Int) ≤ 0; omega, by show (0 : Int) < 4; omega, fun i hi => by simp at hi⟩
end Go.Proofs.YtcgabodkegcpgaaDoor
