/- What Passes does: it answers true, whatever the words and ways are, and nothing that was there has turned. -/
import Derived.Test.YtcgabodkegcpgaaDoorSix
import Derived.Test.YtcgabodkegcpgaaDoorPassP
import Derived.Test.YtcgabodkegcpgaaDoorQue
namespace Go.Proofs.YtcgabodkegcpgaaDoor
open Go.RowKit
set_option linter.unusedVariables false

/-- The queue without its first element. -/
theorem slice_q {B : Nat} {no : Nat → Prop} {w : World} {x : Int} {r : List Int} {ao : Option Addr} {n cap : Nat} (h : Que B no w (.slice ao n cap) (x :: r)) :
    n = r.length + 1 ∧ n ≤ cap ∧ (∃ g o, ao = some ⟨g, o, none⟩ ∧ w.cell? ⟨g, o, none⟩ = some (.int .i64 x) ∧ (cap = 1 → Que B no w (.slice (some ⟨g, o, none⟩) (n - 1) (cap - 1)) r) ∧ (cap ≠ 1 → Que B no w (.slice (some ⟨g, o + 1, none⟩) (n - 1) (cap - 1)) r)) := by
  obtain ⟨ao', cap', hv, hl, hn, ha⟩ := h
  simp only [Value.slice.injEq] at hv
  obtain ⟨rfl, rfl, rfl⟩ := hv
  have hl' : r.length + 1 ≤ cap := by simpa using hl
  cases ao with
  | none => exact absurd (hn rfl) (by omega)
  | some a =>
    obtain ⟨g, o, rfl, hB, hg, hno, hc, hr⟩ := ha a rfl
    refine ⟨by simp, hl, g, o, rfl, ?_, fun h1 => ?_, fun h1 => ?_⟩
    · have := hc 0 (by simp)
      simpa using this
    · obtain rfl : r = [] := List.length_eq_zero_iff.1 (by omega)
      refine ⟨_, cap - 1, rfl, by simp, (fun h => by cases h), fun a e => ?_⟩
      cases e
      exact ⟨g, o, rfl, hB, hg, hno, fun i hi => by simp at hi, fun i hi => by omega⟩
    · refine ⟨some ⟨g, o + 1, none⟩, cap - 1, by simp, by omega, (fun h => by cases h), fun a e => ?_⟩
      cases e
      refine ⟨g, o + 1, rfl, hB, hg, hno, fun i hi => ?_, fun i hi => ?_⟩
      · have := hc (i + 1) (by simp; omega)
        rw [show o + 1 + i = o + (i + 1) by omega, this]
        rfl
      · rw [show o + 1 + i = o + (i + 1) by omega]
        exact hr (i + 1) (by omega)

set_option maxRecDepth 100000 in
set_option maxHeartbeats 4000000 in
theorem passes_any (w : World) (T : Tab w) (a0 a1 : Option Addr) (n0 n1 c0 c1 : Nat) (hn0 : n0 ≤ maxLen) (hn1 : n1 ≤ maxLen)
    (W0 : Hid (∀ i, i < n0 → ∃ g o x, a0 = some ⟨g, o, none⟩ ∧ g < w.heap.size ∧ w.cell? ⟨g, o + i, none⟩ = some (.int .i64 x)))
    (W1 : Hid (∀ i, i < n1 → ∃ g o x, a1 = some ⟨g, o, none⟩ ∧ g < w.heap.size ∧ w.cell? ⟨g, o + i, none⟩ = some (.bool x))) :
    Calls Tryd.prog 3 #[.slice a0 n0 c0, .slice a1 n1 c1] w fun e w' => e = .returned (.bool true) ∧ Below w.heap.size w w' := by
  have HT : Hid (Tab w) := T
  clear T
  have hn0' : n0 ≤ 9223372036854775807 := by simpa [maxLen] using hn0
  have hn1' : n1 ≤ 9223372036854775807 := by simpa [maxLen] using hn1
  clear hn0 hn1
  go_enter Tryd.func3, Tryd.ntmps3
  go_wp2_with fail
  refine (works_any _ HT.out).mono ?_
  rintro e w0 ⟨rfl, b0⟩
  have p0 := HT.out.lt
  have HT0 : Hid (Tab w0) := HT.out.same (b0.block 0 p0)
  have Hb0 : Hid _ := b0
  clear b0
  go_wp2_with fail
  refine (new_any 4 1 1 (by omega) (by omega) (by omega) (by omega) (by omega) _).mono ?_
  rintro e w1 ⟨bk, bf, bs, bd, rfl, R1, b1, g1, g2, g3, g4⟩
  have z0 := Hb0.out.size
  have HT1 : Hid (Tab w1) := HT0.out.same (b1.block 0 (by omega))
  have HR1 : Hid _ := R1
  have Hb1 : Hid (Below w.heap.size w w1) := Hb0.out.trans (b1.mono z0)
  have Hg : Hid (w.heap.size ≤ bk ∧ w.heap.size ≤ bf ∧ w.heap.size ≤ bs ∧ w.heap.size ≤ bd ∧ 0 < w.heap.size) := ⟨by omega, by omega, by omega, by omega, p0⟩
  clear R1 b1 g1 g2 g3 g4 p0 z0 Hb0 HT0
  go_wp2_with fail
  refine (call_six HR1.out HT1.out pG0 0 2 0 1 0 (by unfold Six; omega) pE1).mono ?_
  rintro e w2 ⟨rfl, R2, k2⟩
  have HT2 : Hid (Tab w2) := HT1.out.keeps k2 (by have := Hg.out; omega) (by have := Hg.out; omega) (by have := Hg.out; omega)
  have HR2 : Hid _ := R2
  have Hk2 : Hid _ := k2
  clear R2 k2
  go_wp2_with fail
  refine (call_six HR2.out HT2.out pG1 0 13 0 2 0 (by unfold Six; omega) pE2).mono ?_
  rintro e w3 ⟨rfl, R3, k3⟩
  have HT3 : Hid (Tab w3) := HT2.out.keeps k3 (by have := Hg.out; omega) (by have := Hg.out; omega) (by have := Hg.out; omega)
  have HR3 : Hid _ := R3
  have Hb3 : Hid (Below w.heap.size w w3) := by
    have g := Hg.out
    exact Hb1.out.trans ((Hk2.out.trans k3).below Hb1.out.size g.2.1 g.2.2.1 g.2.2.2.1)
  clear R3 k3 HR1 HT1 HR2 HT2 Hk2 Hb1
  go_wp2_with fail
  go_loopw [12, 13, 14] (fun hv av iv w' => ∃ (k at_ : Nat) (xs : List Int) (K : Ker), k ≤ n1 ∧ at_ ≤ n0 ∧ iv = .int .i64 k ∧ av = .int .i64 at_ ∧ Rep w' bk bf bs bd K ∧ Tab w' ∧ PInv K xs ∧ Below w.heap.size w w' ∧ Que w.heap.size (fun k => k = bk ∨ k = bf ∨ k = bs ∨ k = bd) w' hv xs) (fun _ _ iv _ => n1 - (intOf iv).toNat)
  case atStart => exact ⟨0, 0, [], pK2, by omega, by omega, rfl, rfl, HR3.out, HT3.out, pInit, Hb3.out, Que.nil _ _ _⟩
  case round =>
    clear HR3 HT3 Hb3
    obtain ⟨k, at_, xs, K, hk, hat, rfl, rfl, R, T, P, hb, Q⟩ := hrel
    have HR : Hid (Rep wr bk bf bs bd K) := R
    have HT : Hid (Tab wr) := T
    have HP : Hid (PInv K xs) := P
    have Hb : Hid (Below w.heap.size w wr) := hb
    have HQ : Hid (Que w.heap.size (fun k => k = bk ∨ k = bf ∨ k = bs ∨ k = bd) wr _ xs) := Q
    have Hno : Hid (∀ k, (k = bk ∨ k = bf ∨ k = bs ∨ k = bd) → k < wr.heap.size) := fun k h => by rcases h with rfl | rfl | rfl | rfl; exact HR.out.lk; exact HR.out.lf; exact HR.out.ls; exact HR.out.ld
    clear R T P hb
    obtain ⟨ao, cap, rfl, hcap, hnil, hadr⟩ := Q
    clear hnil hadr
    by_cases hlt : k < n1
    · obtain ⟨gw, ow, way, rfl, hgw, hway⟩ := W1.out k hlt
      have cway : wr.cell? ⟨gw, ow + k, none⟩ = some (.bool way) := (Hb.out.cell (p := ⟨gw, ow + k, none⟩) hgw).trans hway
      clear hway hgw
      by_cases hpath : way = true ∧ at_ < n0
      · obtain ⟨rfl, hatlt⟩ := hpath
        obtain ⟨gx, ox, x, rfl, hgx, hx⟩ := W0.out at_ hatlt
        have cx : wr.cell? ⟨gx, ox + at_, none⟩ = some (.int .i64 x) := (Hb.out.cell (p := ⟨gx, ox + at_, none⟩) hgx).trans hx
        have Hx : Hid (gx < w.heap.size ∧ w.cell? ⟨gx, ox + at_, none⟩ = some (.int .i64 x)) := ⟨hgx, hx⟩
        clear hx hgx
        go_wp2_with fail
        refine (call_six HR.out HT.out HP.out.good 0 19 0 1 x (by unfold Six; omega) (p_store HP.out x)).mono ?_
        rintro e w4 ⟨rfl, R4, k4⟩
        have HP4 : Hid (PInv (K.setF 1 3 x) xs) := p_stored HP.out 3 x
        have HT4 : Hid (Tab w4) := HT.out.keeps k4 (by have := Hg.out; omega) (by have := Hg.out; omega) (by have := Hg.out; omega)
        have HR4 : Hid (Rep w4 bk bf bs bd _) := R4
        have Hb4 : Hid (Below w.heap.size w w4) := by have g := Hg.out; exact Hb.out.trans (k4.below Hb.out.size g.2.1 g.2.2.1 g.2.2.2.1)
        have HQ4 : Hid (Que w.heap.size (fun k => k = bk ∨ k = bf ∨ k = bs ∨ k = bd) w4 (.slice ao xs.length cap) xs) := HQ.out.same k4.size (fun k _ h1 h2 => k4.block k h1 (fun e => h2 (by simp [e])) (fun e => h2 (by simp [e])) (fun e => h2 (by simp [e])))
        clear R4 k4
        go_wp2_with fail
        by_cases hfull : xs.length = 4
        · have HE : Hid (kCall (K.setF 1 3 x) 0 16 1 0 1 = ⟨K.setF 1 3 x, 0, 11⟩) := p_full HP4.out hfull
          have e4 : ¬ ((xs.length : Int) < 4) := by omega
          clear hfull
          refine (call_six HR4.out HT4.out HP4.out.good 0 16 1 0 1 (by unfold Six; omega) HE.out).mono ?_
          rintro e w5 ⟨rfl, R5, k5⟩
          have HT5 : Hid (Tab w5) := HT4.out.keeps k5 (by have := Hg.out; omega) (by have := Hg.out; omega) (by have := Hg.out; omega)
          have HR5 : Hid (Rep w5 bk bf bs bd _) := R5
          have Hb5 : Hid (Below w.heap.size w w5) := by have g := Hg.out; exact Hb4.out.trans (k5.below Hb4.out.size g.2.1 g.2.2.1 g.2.2.2.1)
          have HQ5 : Hid (Que w.heap.size (fun k => k = bk ∨ k = bf ∨ k = bs ∨ k = bd) w5 (.slice ao xs.length cap) xs) := HQ4.out.same k5.size (fun k _ h1 h2 => k5.block k h1 (fun e => h2 (by simp [e])) (fun e => h2 (by simp [e])) (fun e => h2 (by simp [e])))
          clear R5 k5
          go_wp2
          exact ⟨⟨k + 1, at_ + 1, xs, K.setF 1 3 x, by omega, by omega, by go_num, by go_num, HR5.out, HT5.out, HP4.out, Hb5.out, HQ5.out⟩, by simp [intOf]; omega⟩
        · obtain ⟨K', hE, hP'⟩ := p_write HP4.out (by have := HP4.out.le; omega)
          rw [show (K.setF 1 3 x).F 1 3 = x from upd_same K.F 1 3 x] at hP'
          have HE : Hid (kCall (K.setF 1 3 x) 0 16 1 0 1 = ⟨K', 0, 0⟩) := hE
          have HP5 : Hid (PInv K' (xs ++ [x])) := hP'
          have e4 : (xs.length : Int) < 4 := by have := HP4.out.le; omega
          clear hE hP' hfull
          refine (call_six HR4.out HT4.out HP4.out.good 0 16 1 0 1 (by unfold Six; omega) HE.out).mono ?_
          rintro e w5 ⟨rfl, R5, k5⟩
          have HT5 : Hid (Tab w5) := HT4.out.keeps k5 (by have := Hg.out; omega) (by have := Hg.out; omega) (by have := Hg.out; omega)
          have HR5 : Hid (Rep w5 bk bf bs bd _) := R5
          have Hb5 : Hid (Below w.heap.size w w5) := by have g := Hg.out; exact Hb4.out.trans (k5.below Hb4.out.size g.2.1 g.2.2.1 g.2.2.2.1)
          have HQ5 : Hid (Que w.heap.size (fun k => k = bk ∨ k = bf ∨ k = bs ∨ k = bd) w5 (.slice ao xs.length cap) xs) := HQ4.out.same k5.size (fun k _ h1 h2 => k5.block k h1 (fun e => h2 (by simp [e])) (fun e => h2 (by simp [e])) (fun e => h2 (by simp [e])))
          clear R5 k5
          have c5 : w5.cell? ⟨gx, ox + at_, none⟩ = some (.int .i64 x) := (Hb5.out.cell (p := ⟨gx, ox + at_, none⟩) Hx.out.1).trans Hx.out.2
          obtain ⟨v6, w6, happ, hQ6, q1, q2, q3, q4, q5⟩ := append_q HQ5.out Hb5.out.size (fun k h => by rcases h with rfl | rfl | rfl | rfl; exact HR5.out.lk; exact HR5.out.lf; exact HR5.out.ls; exact HR5.out.ld) (by omega) x 22
          have H6 : Hid (Que w.heap.size (fun k => k = bk ∨ k = bf ∨ k = bs ∨ k = bd) w6 v6 (xs ++ [x]) ∧ w6.os = w5.os ∧ w6.tape = w5.tape ∧ w6.output = w5.output ∧ w5.heap.size ≤ w6.heap.size ∧ ∀ k, k < w5.heap.size → (k < w.heap.size ∨ (k = bk ∨ k = bf ∨ k = bs ∨ k = bd)) → w6.heap[k]? = w5.heap[k]?) := ⟨hQ6, q1, q2, q3, q4, q5⟩
          have Happ : Hid (_ = _) := happ
          clear hQ6 q1 q2 q3 q4 q5 happ
          go_wp2_with (at_builtin; refine wpList_append_run rfl _ _ 22 rfl (.slice ao xs.length cap) (.slice (some ⟨w5.heap.size, 0, none⟩) 1 1) v6 rfl rfl Happ.out ?_)
          obtain ⟨hQ6, q1, q2, q3, q4, q5⟩ := H6.out
          have z5 := Hb5.out.size
          exact ⟨⟨k + 1, at_ + 1, xs ++ [x], K', by omega, by omega, by go_num, by go_num, HR5.out.same q4 (fun k h1 h2 => q5 k h1 (Or.inr h2)), HT5.out.same (q5 0 HT5.out.lt (Or.inl Hg.out.2.2.2.2)), HP5.out,
            Hb5.out.trans ⟨q1, q2, q3, q4, fun k hk => q5 k (by omega) (Or.inl hk)⟩, hQ6⟩, by simp [intOf]; omega⟩
      · have hcond : way = false ∨ (way = true ∧ ¬ at_ < n0) := by
          cases way
          · exact Or.inl rfl
          · exact Or.inr ⟨rfl, fun h => hpath ⟨rfl, h⟩⟩
        clear hpath
        cases xs with
        | nil =>
          rcases hcond with rfl | ⟨rfl, hge⟩
          all_goals
            go_wp2_with fail
            refine (call_six HR.out HT.out HP.out.good 0 17 0 0 2 (by unfold Six; omega) (p_empty HP.out)).mono ?_
            rintro e w4 ⟨rfl, R4, k4⟩
            have HT4 : Hid (Tab w4) := HT.out.keeps k4 (by have := Hg.out; omega) (by have := Hg.out; omega) (by have := Hg.out; omega)
            have HR4 : Hid (Rep w4 bk bf bs bd _) := R4
            have Hb4 : Hid (Below w.heap.size w w4) := by have g := Hg.out; exact Hb.out.trans (k4.below Hb.out.size g.2.1 g.2.2.1 g.2.2.2.1)
            have HQ4 : Hid (Que w.heap.size (fun k => k = bk ∨ k = bf ∨ k = bs ∨ k = bd) w4 (.slice ao (([] : List Int)).length cap) ([] : List Int)) := HQ.out.same k4.size (fun k _ h1 h2 => k4.block k h1 (fun e => h2 (by simp [e])) (fun e => h2 (by simp [e])) (fun e => h2 (by simp [e])))
            clear R4 k4
            go_wp2_with fail
            refine (call_six HR4.out HT4.out HP.out.good 0 18 0 2 0 (by unfold Six; omega) (p_load HP.out)).mono ?_
            rintro e w5 ⟨rfl, R5, k5⟩
            have HT5 : Hid (Tab w5) := HT4.out.keeps k5 (by have := Hg.out; omega) (by have := Hg.out; omega) (by have := Hg.out; omega)
            have HR5 : Hid (Rep w5 bk bf bs bd _) := R5
            have Hb5 : Hid (Below w.heap.size w w5) := by have g := Hg.out; exact Hb4.out.trans (k5.below Hb4.out.size g.2.1 g.2.2.1 g.2.2.2.1)
            have HQ5 : Hid (Que w.heap.size (fun k => k = bk ∨ k = bf ∨ k = bs ∨ k = bd) w5 (.slice ao (([] : List Int)).length cap) ([] : List Int)) := HQ4.out.same k5.size (fun k _ h1 h2 => k5.block k h1 (fun e => h2 (by simp [e])) (fun e => h2 (by simp [e])) (fun e => h2 (by simp [e])))
            clear R5 k5
            go_wp2
            exact ⟨⟨k + 1, at_, [], K, by omega, by omega, by go_num, by go_num, HR5.out, HT5.out, HP.out, Hb5.out, HQ5.out⟩, by simp [intOf]; omega⟩
        | cons x r =>
          obtain ⟨K', hE, hP', hx⟩ := p_read HP.out
          have HE : Hid (kCall K 0 17 0 0 2 = ⟨K', 0, 0⟩) := hE
          have HP5 : Hid (PInv K' r) := hP'
          have HE2 : Hid (kCall K' 0 18 0 2 0 = ⟨K', x, 0⟩) := by unfold Hid; rw [p_load hP', hx]
          clear hE hP' hx
          rcases hcond with rfl | ⟨rfl, hge⟩
          all_goals
            go_wp2_with fail
            refine (call_six HR.out HT.out HP.out.good 0 17 0 0 2 (by unfold Six; omega) HE.out).mono ?_
            rintro e w4 ⟨rfl, R4, k4⟩
            have HT4 : Hid (Tab w4) := HT.out.keeps k4 (by have := Hg.out; omega) (by have := Hg.out; omega) (by have := Hg.out; omega)
            have HR4 : Hid (Rep w4 bk bf bs bd _) := R4
            have Hb4 : Hid (Below w.heap.size w w4) := by have g := Hg.out; exact Hb.out.trans (k4.below Hb.out.size g.2.1 g.2.2.1 g.2.2.2.1)
            have HQ4 : Hid (Que w.heap.size (fun k => k = bk ∨ k = bf ∨ k = bs ∨ k = bd) w4 (.slice ao ((x :: r)).length cap) (x :: r)) := HQ.out.same k4.size (fun k _ h1 h2 => k4.block k h1 (fun e => h2 (by simp [e])) (fun e => h2 (by simp [e])) (fun e => h2 (by simp [e])))
            clear R4 k4
            go_wp2_with fail
            refine (call_six HR4.out HT4.out HP5.out.good 0 18 0 2 0 (by unfold Six; omega) HE2.out).mono ?_
            rintro e w5 ⟨rfl, R5, k5⟩
            have HT5 : Hid (Tab w5) := HT4.out.keeps k5 (by have := Hg.out; omega) (by have := Hg.out; omega) (by have := Hg.out; omega)
            have HR5 : Hid (Rep w5 bk bf bs bd _) := R5
            have Hb5 : Hid (Below w.heap.size w w5) := by have g := Hg.out; exact Hb4.out.trans (k5.below Hb4.out.size g.2.1 g.2.2.1 g.2.2.2.1)
            have HQ5 : Hid (Que w.heap.size (fun k => k = bk ∨ k = bf ∨ k = bs ∨ k = bd) w5 (.slice ao ((x :: r)).length cap) (x :: r)) := HQ4.out.same k5.size (fun k _ h1 h2 => k5.block k h1 (fun e => h2 (by simp [e])) (fun e => h2 (by simp [e])) (fun e => h2 (by simp [e])))
            clear R5 k5
            obtain ⟨_, hl1, g, o, rfl, hc5, s1, s2⟩ := slice_q HQ5.out
            have S1 : Hid (cap = 1 → _) := s1
            have S2 : Hid (cap ≠ 1 → _) := s2
            clear s1 s2 hcap
            have hl2 : r.length + 1 ≤ cap := hl1
            clear hl1
            have hpos : (0 : Int) < (r.length : Int) + 1 := by omega
            by_cases hc1 : cap = 1
            · have Q6 := S1.out hc1
              subst hc1
              obtain rfl : r = [] := List.length_eq_zero_iff.1 (by omega)
              have HQ6 : Hid _ := Q6
              clear Q6 S1 S2
              go_wp2
              exact ⟨⟨k + 1, at_, [], K', by omega, by omega, by go_num, by go_num, HR5.out, HT5.out, HP5.out, Hb5.out, HQ6.out⟩, by simp [intOf]; omega⟩
            · have Q6 := S2.out hc1
              have HQ6 : Hid _ := Q6
              clear Q6 S1 S2
              go_wp2
              exact ⟨⟨k + 1, at_, r, K', by omega, by omega, by go_num, by go_num, HR5.out, HT5.out, HP5.out, Hb5.out, HQ6.out⟩, by simp [intOf]; omega⟩
    · obtain rfl : k = n1 := by omega
      go_wp2
      go_ret
      exact ⟨rfl, Hb.out⟩
end Go.Proofs.YtcgabodkegcpgaaDoor
