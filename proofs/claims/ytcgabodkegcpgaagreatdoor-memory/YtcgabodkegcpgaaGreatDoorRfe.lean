/- The reference's Call: what it refuses out of hand. -/
import Derived.Test.YtcgabodkegcpgaaGreatDoorRfd
import Derived.Test.YtcgabodkegcpgaaGreatDoorRfb
import Derived.Test.YtcgabodkegcpgaaGreatDoorRfc
namespace Go.Proofs.YtcgabodkegcpgaaGreatDoor
open Go.RowKit
set_option linter.unusedVariables false
set_option linter.unusedSimpArgs false
attribute [local go_sem ↓] Go.wp_at_zero Go.wp_at_succ

/-- The letters of a call are its arguments' kinds. -/
theorem things_letter (n i : Nat) (hn : n < 20) (hi : i < 3) : ∃ h : i < (thingsOf n).size, ((((thingsOf n)[i]'h).toNat : Nat) : Int) = letter ((argKinds n).getD i 0) := by
  obtain rfl | rfl | rfl : i = 0 ∨ i = 1 ∨ i = 2 := by omega
  all_goals
    obtain rfl | rfl | rfl | rfl | rfl | rfl | rfl | rfl | rfl | rfl | rfl | rfl | rfl | rfl | rfl | rfl | rfl | rfl | rfl | rfl : n = 0 ∨ n = 1 ∨ n = 2 ∨ n = 3 ∨ n = 4 ∨ n = 5 ∨ n = 6 ∨ n = 7 ∨ n = 8 ∨ n = 9 ∨ n = 10 ∨ n = 11 ∨ n = 12 ∨ n = 13 ∨ n = 14 ∨ n = 15 ∨ n = 16 ∨ n = 17 ∨ n = 18 ∨ n = 19 := by omega
    all_goals exact ⟨by decide, rfl⟩
theorem index_letter {P : Program} {t : TypeId} (ht : P.underlying t = some .string) {ts : ByteArray} {i : Nat} {v : Int} (h : ∃ h : i < ts.size, (((ts[i]'h).toNat : Nat) : Int) = v) (w : World) : (Instr.index t (.string ts) (.int .i64 (i : Int))).run P w = .ok (.int .u8 v) w := by
  obtain ⟨h1, h2⟩ := h
  rw [run_index_string w t ts .i64 _ ht, dif_pos ⟨by omega, by omega⟩, ← h2]
  have e : ((i : Int)).toNat = i := by omega
  simp only [e]
theorem kinds_ok (n i : Nat) (hn : n < 20) (hi : i < 3) : (argKinds n).getD i 0 = 0 ∨ (argKinds n).getD i 0 = 1 ∨ (argKinds n).getD i 0 = 2 ∨ (argKinds n).getD i 0 = 3 ∨ (argKinds n).getD i 0 = 4 ∨ (argKinds n).getD i 0 = 5 ∨ (argKinds n).getD i 0 = 6 := by
  obtain rfl | rfl | rfl : i = 0 ∨ i = 1 ∨ i = 2 := by omega
  all_goals
    obtain rfl | rfl | rfl | rfl | rfl | rfl | rfl | rfl | rfl | rfl | rfl | rfl | rfl | rfl | rfl | rfl | rfl | rfl | rfl | rfl : n = 0 ∨ n = 1 ∨ n = 2 ∨ n = 3 ∨ n = 4 ∨ n = 5 ∨ n = 6 ∨ n = 7 ∨ n = 8 ∨ n = 9 ∨ n = 10 ∨ n = 11 ∨ n = 12 ∨ n = 13 ∨ n = 14 ∨ n = 15 ∨ n = 16 ∨ n = 17 ∨ n = 18 ∨ n = 19 := by omega
    all_goals decide
theorem fits_inB {K : Ker} {t a : Int} (ht : t ≠ 0) : fits K t a = inB a (howMany K t) := by unfold fits inB; simp [ht]
theorem RMem.drewN {w : World} {B : RB} {r : Rk} (M : RMem w B r) (n : Nat) : RMem (w.drewN n) B r := M.same (by simp) (fun k _ _ => by simp)
theorem inB_true {n m : Int} : inB n m = true ↔ 0 ≤ n ∧ n < m := by unfold inB; simp
section
variable {w : World} {B : RB} {r : Rk} {K : Ker}
set_option maxRecDepth 100000 in
set_option maxHeartbeats 4000000 in
theorem rcall_any (M : RMem w B r) (U : Rel K r) (O : Own K) (I : Inv K) (N : Neat K) (E' : Ended K) (slot call a b c : Int) (hl : -9223372036854775808 ≤ call ∧ call < 9223372036854775808) :
    Calls Tryz.prog 17 #[.pointer (some ⟨B.b, 0, none⟩), .int .i64 slot, .int .i64 call, .agg #[.int .i64 a, .int .i64 b, .int .i64 c]] w (REnds B w (kCall K slot call a b c)) := by
  have HM : Hid (RMem w B r) := M
  have HU : Hid (Rel K r) := U
  have k1 := fun o => (HM.out.alloc o).k1
  have ES : Hid (r.nS = K.nS) := U.s
  clear M U
  by_cases hc : 1 ≤ call ∧ call ≤ 19
  · obtain ⟨n, rfl⟩ : ∃ n : Nat, call = n := ⟨call.toNat, by omega⟩
    have hn : n < 20 := by omega
    have hn0 : n ≠ 0 := by omega
    have hb1 : inB ((n : Int) - 1) 19 = true := inB_true.2 ⟨by omega, by omega⟩
    clear hl
    by_cases hs : 0 ≤ slot ∧ slot < K.nS
    · obtain ⟨s, rfl⟩ : ∃ s : Nat, slot = s := ⟨slot.toNat, by omega⟩
      have hs' : s < r.nS := by have := ES.out; omega
      have hb2 : inB (s : Int) (r.nS : Int) = true := inB_true.2 ⟨by omega, by omega⟩
      have l1 : (0 : Int) ≤ (s : Int) := by omega
      have l2 : (s : Int) < (r.nS : Int) := by omega
      have c0 : ∀ o, (w.alloc o).cell? ⟨B.bp, s * 12, none⟩ = some (.int .i64 (K.S s 0)) := fun o => by
        have := (HM.out.alloc o).pr s 0 hs' (by omega)
        rw [HU.out.kind (by omega)] at this; exact this
      by_cases hk : K.S s 0 = 2
      · rw [hk] at c0
        go_enter Tryz.func17, Tryz.ntmps17
        go_wp2_with fail
        refine (in_any _ _ _).mono ?_
        rintro e w1 ⟨rfl, rfl⟩
        rw [hb1]
        go_wp2_with fail
        refine (in_any _ _ _).mono ?_
        rintro e w1 ⟨rfl, rfl⟩
        rw [hb2]
        go_wp2_with fail
        refine (things_any n hn hn0 _).mono ?_
        rintro e w1 ⟨rfl, rfl⟩
        have TL : Hid (∀ i, i < 3 → ∃ h : i < (thingsOf n).size, ((((thingsOf n)[i]'h).toNat : Nat) : Int) = letter ((argKinds n).getD i 0)) := fun i hi => things_letter n i hn hi
        generalize thingsOf n = ts at *
        go_wp2
        obtain ⟨W0, eW⟩ : ∃ W0, W0 = w.alloc (.cells #[.int .i64 a, .int .i64 b, .int .i64 c] 25) := ⟨_, rfl⟩
        have y0 : W0.cell? ⟨w.heap.size, 0, none⟩ = some (.int .i64 a) := by rw [eW]; simp
        have y1 : W0.cell? ⟨w.heap.size, 1, none⟩ = some (.int .i64 b) := by rw [eW]; simp
        have y2 : W0.cell? ⟨w.heap.size, 2, none⟩ = some (.int .i64 c) := by rw [eW]; simp
        have HM0 : Hid (RMem W0 B r) := by rw [eW]; exact HM.out.alloc _
        have HP0 : Hid (RKeeps B w W0) := by rw [eW]; exact (RKeeps.refl w).alloc _
        rw [← eW]
        obtain ⟨arg, harg⟩ : ∃ arg : Nat → Int, arg = fun i => if i = 0 then a else if i = 1 then b else c := ⟨_, rfl⟩
        have HA : Hid (∀ i, i < 3 → W0.cell? ⟨w.heap.size, i, none⟩ = some (.int .i64 (arg i))) := fun i hi => by
          rw [harg]
          obtain rfl | rfl | rfl : i = 0 ∨ i = 1 ∨ i = 2 := by omega
          · exact y0
          · exact y1
          · exact y2
        have Harg : Hid (arg 0 = a ∧ arg 1 = b ∧ arg 2 = c) := by unfold Hid; rw [harg]; exact ⟨rfl, rfl, rfl⟩
        clear eW harg y0 y1 y2 c0 k1
        go_loopw [11] (fun i w' => ∃ k : Nat, k ≤ 3 ∧ i = .int .i64 k ∧ RMem w' B r ∧ RKeeps B w w' ∧ (∀ i, i < 3 → w'.cell? ⟨w.heap.size, i, none⟩ = some (.int .i64 (arg i))) ∧ ∀ i, i < k → fits K ((argKinds n).getD i 0) (arg i) = true) (fun i _ => 3 - (intOf i).toNat)
        case atStart => exact ⟨0, by omega, rfl, HM0.out, HP0.out, HA.out, fun i hi => by omega⟩
        case round =>
          clear HM0 HP0 HA HM
          obtain ⟨k, hk3, rfl, m1, p1, a1, f1⟩ := hrel
          have HM1 : Hid (RMem wr B r) := m1
          have HP1 : Hid (RKeeps B w wr) := p1
          have HA1 : Hid (∀ i, i < 3 → wr.cell? ⟨w.heap.size, i, none⟩ = some (.int .i64 (arg i))) := a1
          have HF1 : Hid (∀ i, i < k → fits K ((argKinds n).getD i 0) (arg i) = true) := f1
          clear m1 p1 a1 f1
          by_cases hlt : k < 3
          · have c1 := HA1.out k hlt
            have ix := index_letter (P := Tryz.prog) (t := 9) Tryz.underlying9 (TL.out k hlt)
            have i1 : (0 : Int) ≤ (k : Int) := by omega
            have i2 : (k : Int) < 3 := by omega
            have hko := kinds_ok n k hn hlt
            have HKD : Hid (∀ i, i < k + 1 → fits K ((argKinds n).getD k 0) (arg k) = true → fits K ((argKinds n).getD i 0) (arg i) = true) := fun i hi hf => by
              by_cases e : i = k
              · rw [e]; exact hf
              · exact HF1.out i (by omega)
            have HNO : Hid (fits K ((argKinds n).getD k 0) (arg k) = false → kCall K s n a b c = ⟨K, 0, 4⟩) := fun hf => by
              unfold kCall
              rw [if_neg (by omega), if_neg (by rw [Int.toNat_natCast]; omega), if_pos]
              rw [Int.toNat_natCast]
              obtain ⟨e0, e1, e2⟩ := Harg.out
              obtain rfl | rfl | rfl : k = 0 ∨ k = 1 ∨ k = 2 := by omega
              · rw [e0] at hf; exact Or.inl hf
              · rw [e1] at hf; exact Or.inr (Or.inl hf)
              · rw [e2] at hf; exact Or.inr (Or.inr hf)
            generalize (argKinds n).getD k 0 = kd at *
            by_cases hk0 : kd = 0
            · subst hk0
              rw [show letter 0 = 45 from rfl] at ix
              clear hko HNO
              go_wp2_with fail
              go_quiet (fail)
              go_wp2
              exact ⟨⟨k + 1, by omega, by go_num, HM1.out.drewN _, HP1.out.trans ⟨rfl, rfl, rfl, by simp, fun k _ _ _ _ => by simp⟩, fun i hi => HA1.out i hi, fun i hi => HKD.out i hi (by simp [fits])⟩, by simp [intOf]; omega⟩
            · have hfi : fits K kd (arg k) = inB (arg k) (howMany K kd) := fits_inB hk0
              by_cases hfit : fits K kd (arg k) = true
              · have HFT : Hid (fits K kd (arg k) = true) := hfit
                rw [hfi] at hfit
                have MR : Hid (∀ m, Calls Tryz.prog 38 #[.pointer (some ⟨B.b, 0, none⟩), .int .u8 (letter kd)] (wr.drewN m) fun e w' => e = .returned (.int .i64 (howMany K kd)) ∧ w' = wr.drewN m) := fun m => many_rep (HM1.out.drewN m) HU.out kd (by omega)
                have nl : (letter kd != 45) = true := by
                  obtain rfl | rfl | rfl | rfl | rfl | rfl : kd = 1 ∨ kd = 2 ∨ kd = 3 ∨ kd = 4 ∨ kd = 5 ∨ kd = 6 := by omega
                  all_goals decide
                have IN : Hid (∀ w', Calls Tryz.prog 32 #[.int .i64 (arg k), .int .i64 (howMany K kd)] w' fun e w'' => e = .returned (.bool true) ∧ w'' = w') := fun w' => by
                  have := in_any (arg k) (howMany K kd) w'
                  rw [hfit] at this; exact this
                clear hko HNO hfi hfit hk0
                generalize letter kd = lt at *
                generalize howMany K kd = hm at *
                generalize arg k = ak at *
                go_wp2_with fail
                go_quiet (first | (go_at_call 38; exact Calls.quiet_of_same (MR.out _)) | (go_at_call 32; exact Calls.quiet_of_same (IN.out _)))
                go_wp2
                exact ⟨⟨k + 1, by omega, by go_num, HM1.out.drewN _, HP1.out.trans ⟨rfl, rfl, rfl, by simp, fun k _ _ _ _ => by simp⟩, fun i hi => HA1.out i hi, fun i hi => HKD.out i hi HFT.out⟩, by simp [intOf]; omega⟩
              · have E : Hid (kCall K s n a b c = ⟨K, 0, 4⟩) := HNO.out (by simpa using hfit)
                have hfb : inB (arg k) (howMany K kd) = false := by rw [← hfi]; simpa using hfit
                have MR : Hid (∀ m, Calls Tryz.prog 38 #[.pointer (some ⟨B.b, 0, none⟩), .int .u8 (letter kd)] (wr.drewN m) fun e w' => e = .returned (.int .i64 (howMany K kd)) ∧ w' = wr.drewN m) := fun m => many_rep (HM1.out.drewN m) HU.out kd (by omega)
                have nl : (letter kd != 45) = true := by
                  obtain rfl | rfl | rfl | rfl | rfl | rfl : kd = 1 ∨ kd = 2 ∨ kd = 3 ∨ kd = 4 ∨ kd = 5 ∨ kd = 6 := by omega
                  all_goals decide
                have IN : Hid (∀ w', Calls Tryz.prog 32 #[.int .i64 (arg k), .int .i64 (howMany K kd)] w' fun e w'' => e = .returned (.bool false) ∧ w'' = w') := fun w' => by
                  have := in_any (arg k) (howMany K kd) w'
                  rw [hfb] at this; exact this
                clear hko HNO hfi hfit hk0 HKD HF1 hfb
                generalize letter kd = lt at *
                generalize howMany K kd = hm at *
                generalize arg k = ak at *
                go_wp2_with fail
                go_quiet (first | (go_at_call 38; exact Calls.quiet_of_same (MR.out _)) | (go_at_call 32; exact Calls.quiet_of_same (IN.out _)))
                go_wp2
                go_ret2
                exact REnds.mk E (HM1.out.drewN _) HU.out (HP1.out.trans ⟨rfl, rfl, rfl, by simp, fun k _ _ _ _ => by simp⟩)
          · obtain rfl : k = 3 := by omega
            have F0 := HF1.out 0 (by omega)
            have F1 := HF1.out 1 (by omega)
            have F2 := HF1.out 2 (by omega)
            have C0 := HA1.out 0 (by omega)
            have C1 := HA1.out 1 (by omega)
            have C2 := HA1.out 2 (by omega)
            rw [Harg.out.1] at F0 C0
            rw [Harg.out.2.1] at F1 C1
            rw [Harg.out.2.2] at F2 C2
            have E0 : Hid (kCall K s n a b c = kDo K s n a b c) := by
              unfold kCall Hid
              rw [if_neg (by omega), if_neg (by rw [Int.toNat_natCast]; omega), if_neg]
              · rw [Int.toNat_natCast, Int.toNat_natCast]
              · rw [Int.toNat_natCast, F0, F1, F2]; simp
            have HFF : Hid (fits K ((argKinds n).getD 0 0) a = true ∧ fits K ((argKinds n).getD 1 0) b = true ∧ fits K ((argKinds n).getD 2 0) c = true) := ⟨F0, F1, F2⟩
            have m1 := many1 K; have m2 := many2 K; have m3 := many3 K; have m4 := many4 K; have m5 := many5 K; have m6 := many6 K
            clear F0 F1 F2 HF1 HA1 Harg TL
            obtain rfl | rfl | rfl | rfl | rfl | rfl | rfl | rfl | rfl | rfl | rfl | rfl | rfl | rfl | rfl | rfl | rfl | rfl | rfl : n = 1 ∨ n = 2 ∨ n = 3 ∨ n = 4 ∨ n = 5 ∨ n = 6 ∨ n = 7 ∨ n = 8 ∨ n = 9 ∨ n = 10 ∨ n = 11 ∨ n = 12 ∨ n = 13 ∨ n = 14 ∨ n = 15 ∨ n = 16 ∨ n = 17 ∨ n = 18 ∨ n = 19 := by omega
            · have E : Hid (kCall K s (1 : Nat) a b c = ⟨K, 0, 0⟩) := E0.out
              go_wp2
              go_ret2
              exact REnds.mk E HM1.out HU.out HP1.out
            · obtain ⟨p, rfl, hp⟩ := fits_num (t := 4) HFF.out.1 (by decide)
              obtain ⟨f, rfl, hf⟩ := fits_num (t := 1) HFF.out.2.1 (by decide)
              have E : Hid (kCall K s (2 : Nat) p f c = kMap K s p f) := by unfold Hid; rw [E0.out]; rfl
              go_wp2_with fail
              refine (memory_map HM1.out HU.out O N I.good c (by have := ES.out; omega) (by omega) (by omega)).mono ?_
              rintro e w2 ⟨rfl, ⟨r2, m2', u2⟩, p2⟩
              generalize kMap K s p f = out at *
              go_wp2
              go_ret2
              exact REnds.mk E m2' u2 (HP1.out.trans p2)
            · obtain ⟨p, rfl, hp⟩ := fits_num (t := 4) HFF.out.1 (by decide)
              have E : Hid (kCall K s (3 : Nat) p b c = kUnmap K s p) := by unfold Hid; rw [E0.out]; rfl
              go_wp2_with fail
              refine (memory_unmap HM1.out HU.out O N I.good b c (by have := ES.out; omega) (by omega)).mono ?_
              rintro e w2 ⟨rfl, ⟨r2, m2', u2⟩, p2⟩
              generalize kUnmap K s p = out at *
              go_wp2
              go_ret2
              exact REnds.mk E m2' u2 (HP1.out.trans p2)
            · obtain ⟨p, rfl, hp⟩ := fits_num (t := 4) HFF.out.1 (by decide)
              have E : Hid (kCall K s (4 : Nat) p b c = kProtect K s p b) := by unfold Hid; rw [E0.out]; rfl
              go_wp2_with fail
              refine (memory_protect HM1.out HU.out O N I.good b c (by have := ES.out; omega) (by omega)).mono ?_
              rintro e w2 ⟨rfl, ⟨r2, m2', u2⟩, p2⟩
              generalize kProtect K s p b = out at *
              go_wp2
              go_ret2
              exact REnds.mk E m2' u2 (HP1.out.trans p2)
            · obtain ⟨q, rfl, hq⟩ := fits_num (t := 2) HFF.out.1 (by decide)
              obtain ⟨f, rfl, hf⟩ := fits_num (t := 1) HFF.out.2.1 (by decide)
              have E : Hid (kCall K s (5 : Nat) q f c = kSpawn K s q f) := by unfold Hid; rw [E0.out]; rfl
              go_wp2_with fail
              refine (life_spawn HM1.out HU.out O N I.good (by have := ES.out; omega) (by omega) (by omega)).mono ?_
              rintro e w2 ⟨rfl, ⟨r2, m2', u2⟩, p2⟩
              generalize kSpawn K s q f = out at *
              go_wp2
              go_ret2
              exact REnds.mk E m2' u2 (HP1.out.trans p2)
            · obtain ⟨q, rfl, hq⟩ := fits_num (t := 2) HFF.out.1 (by decide)
              obtain ⟨p, rfl, hp⟩ := fits_num (t := 4) HFF.out.2.1 (by decide)
              obtain ⟨f, rfl, hf⟩ := fits_num (t := 1) HFF.out.2.2 (by decide)
              have hq' : q < r.nS := by have := ES.out; omega
              have q1 : (0 : Int) ≤ (q : Int) := by omega
              have q2 : (q : Int) < (r.nS : Int) := by omega
              have z0 : wr.cell? ⟨B.bp, q * 12, none⟩ = some (.int .i64 (r.P q 0)) := HM1.out.pr q 0 hq' (by omega)
              have z1 := HM1.out.pr q 1 hq' (by omega)
              rw [HU.out.kind (by omega)] at z0
              rw [HU.out.parent (by omega)] at z1
              have k1 := HM1.out.k1
              cases he : K.embryo s q with
              | true =>
                have hkk := embryo_kind (K := K) (s := s) (c := q) (by simp [he])
                rw [hkk.2] at z0
                rw [hkk.1] at z1
                have E : Hid (kCall K s (6 : Nat) q p f = kCopy K s q p f) := by unfold Hid; rw [E0.out]; rfl
                go_wp2_with fail
                refine (embryo_copy HM1.out HU.out O N I.good (by have := ES.out; omega) (by omega) (by omega) (by omega) he).mono ?_
                rintro e w2 ⟨rfl, ⟨r2, m2', u2⟩, p2⟩
                generalize kCopy K s q p f = out at *
                go_wp2
                go_ret2
                exact REnds.mk E m2' u2 (HP1.out.trans p2)
              | false =>
                have E : Hid (kCall K s (6 : Nat) q p f = ⟨K, 0, 7⟩) := by unfold Hid; rw [E0.out]; show kCopy K s q p f = _; unfold kCopy; rw [if_pos he]
                by_cases hpa : K.S q 1 = s
                · have hki : ¬ K.S q 0 = 1 := fun h => by unfold Ker.embryo at he; simp [hpa, h] at he
                  have eki : (K.S q 0 != 1) = true := by simpa using hki
                  rw [hpa] at z1
                  clear hki he
                  generalize K.S q 0 = kq at *
                  go_wp2
                  go_ret2
                  exact REnds.mk E HM1.out HU.out HP1.out
                · have epa : (K.S q 1 != (s : Int)) = true := by simpa using hpa
                  clear hpa he
                  generalize K.S q 1 = pq at *
                  go_wp2
                  go_ret2
                  exact REnds.mk E HM1.out HU.out HP1.out
            · obtain ⟨q, rfl, hq⟩ := fits_num (t := 2) HFF.out.1 (by decide)
              obtain ⟨x, rfl, hx⟩ := fits_num (t := 5) HFF.out.2.1 (by decide)
              obtain ⟨t, rfl, ht⟩ := fits_num (t := 5) HFF.out.2.2 (by decide)
              have hq' : q < r.nS := by have := ES.out; omega
              have q1 : (0 : Int) ≤ (q : Int) := by omega
              have q2 : (q : Int) < (r.nS : Int) := by omega
              have z0 : wr.cell? ⟨B.bp, q * 12, none⟩ = some (.int .i64 (r.P q 0)) := HM1.out.pr q 0 hq' (by omega)
              have z1 := HM1.out.pr q 1 hq' (by omega)
              rw [HU.out.kind (by omega)] at z0
              rw [HU.out.parent (by omega)] at z1
              have k1 := HM1.out.k1
              cases he : K.embryo s q with
              | true =>
                have hkk := embryo_kind (K := K) (s := s) (c := q) (by simp [he])
                rw [hkk.2] at z0
                rw [hkk.1] at z1
                have E : Hid (kCall K s (7 : Nat) q x t = kGive K s q x t) := by unfold Hid; rw [E0.out]; rfl
                go_wp2_with fail
                refine (embryo_give HM1.out HU.out I.good (by have := ES.out; omega) (by omega) (by omega) (by omega) he).mono ?_
                rintro e w2 ⟨rfl, ⟨r2, m2', u2⟩, p2⟩
                generalize kGive K s q x t = out at *
                go_wp2
                go_ret2
                exact REnds.mk E m2' u2 (HP1.out.trans p2)
              | false =>
                have E : Hid (kCall K s (7 : Nat) q x t = ⟨K, 0, 7⟩) := by unfold Hid; rw [E0.out]; show kGive K s q x t = _; unfold kGive; rw [if_pos he]
                by_cases hpa : K.S q 1 = s
                · have hki : ¬ K.S q 0 = 1 := fun h => by unfold Ker.embryo at he; simp [hpa, h] at he
                  have eki : (K.S q 0 != 1) = true := by simpa using hki
                  rw [hpa] at z1
                  clear hki he
                  generalize K.S q 0 = kq at *
                  go_wp2
                  go_ret2
                  exact REnds.mk E HM1.out HU.out HP1.out
                · have epa : (K.S q 1 != (s : Int)) = true := by simpa using hpa
                  clear hpa he
                  generalize K.S q 1 = pq at *
                  go_wp2
                  go_ret2
                  exact REnds.mk E HM1.out HU.out HP1.out
            · obtain ⟨q, rfl, hq⟩ := fits_num (t := 2) HFF.out.1 (by decide)
              have hq' : q < r.nS := by have := ES.out; omega
              have q1 : (0 : Int) ≤ (q : Int) := by omega
              have q2 : (q : Int) < (r.nS : Int) := by omega
              have z0 : wr.cell? ⟨B.bp, q * 12, none⟩ = some (.int .i64 (r.P q 0)) := HM1.out.pr q 0 hq' (by omega)
              have z1 := HM1.out.pr q 1 hq' (by omega)
              rw [HU.out.kind (by omega)] at z0
              rw [HU.out.parent (by omega)] at z1
              have k1 := HM1.out.k1
              cases he : K.embryo s q with
              | true =>
                have hkk := embryo_kind (K := K) (s := s) (c := q) (by simp [he])
                rw [hkk.2] at z0
                rw [hkk.1] at z1
                have E : Hid (kCall K s (8 : Nat) q b c = kStart K s q) := by unfold Hid; rw [E0.out]; rfl
                go_wp2_with fail
                refine (embryo_start HM1.out HU.out b c (by have := ES.out; omega) (by omega) he).mono ?_
                rintro e w2 ⟨rfl, ⟨r2, m2', u2⟩, p2⟩
                generalize kStart K s q = out at *
                go_wp2
                go_ret2
                exact REnds.mk E m2' u2 (HP1.out.trans p2)
              | false =>
                have E : Hid (kCall K s (8 : Nat) q b c = ⟨K, 0, 7⟩) := by unfold Hid; rw [E0.out]; show kStart K s q = _; unfold kStart; rw [if_pos he]
                by_cases hpa : K.S q 1 = s
                · have hki : ¬ K.S q 0 = 1 := fun h => by unfold Ker.embryo at he; simp [hpa, h] at he
                  have eki : (K.S q 0 != 1) = true := by simpa using hki
                  rw [hpa] at z1
                  clear hki he
                  generalize K.S q 0 = kq at *
                  go_wp2
                  go_ret2
                  exact REnds.mk E HM1.out HU.out HP1.out
                · have epa : (K.S q 1 != (s : Int)) = true := by simpa using hpa
                  clear hpa he
                  generalize K.S q 1 = pq at *
                  go_wp2
                  go_ret2
                  exact REnds.mk E HM1.out HU.out HP1.out
            · have E : Hid (kCall K s (9 : Nat) a b c = kExit K s a) := by unfold Hid; rw [E0.out]; rfl
              go_wp2_with fail
              refine (life_exit HM1.out HU.out a b (by have := ES.out; omega)).mono ?_
              rintro e w2 ⟨rfl, ⟨r2, m2', u2⟩, p2⟩
              generalize kExit K s a = out at *
              go_wp2
              go_ret2
              exact REnds.mk E m2' u2 (HP1.out.trans p2)
            · obtain ⟨q, rfl, hq⟩ := fits_num (t := 2) HFF.out.1 (by decide)
              obtain ⟨p, rfl, hp⟩ := fits_num (t := 4) HFF.out.2.1 (by decide)
              have hq' : q < r.nS := by have := ES.out; omega
              have q1 : (0 : Int) ≤ (q : Int) := by omega
              have q2 : (q : Int) < (r.nS : Int) := by omega
              have z0 : wr.cell? ⟨B.bp, q * 12, none⟩ = some (.int .i64 (r.P q 0)) := HM1.out.pr q 0 hq' (by omega)
              have z1 := HM1.out.pr q 1 hq' (by omega)
              rw [HU.out.kind (by omega)] at z0
              rw [HU.out.parent (by omega)] at z1
              have k1 := HM1.out.k1
              cases he : K.still s q with
              | true =>
                have hkk := still_kind (K := K) (s := s) (c := q) (by simp [he])
                rw [hkk.1] at z1
                have E : Hid (kCall K s (10 : Nat) q p c = kDrop K s q p) := by unfold Hid; rw [E0.out]; rfl
                rcases hkk.2 with hk1 | hk1
                all_goals
                  rw [hk1] at z0
                  go_wp2_with fail
                  refine (undone_drop HM1.out HU.out I.good (by omega) (by omega) he).mono ?_
                  rintro e w2 ⟨rfl, ⟨r2, m2', u2⟩, p2⟩
                  generalize kDrop K s q p = out at *
                  go_wp2
                  go_ret2
                  exact REnds.mk E m2' u2 (HP1.out.trans p2)
              | false =>
                have E : Hid (kCall K s (10 : Nat) q p c = ⟨K, 0, 7⟩) := by unfold Hid; rw [E0.out]; show kDrop K s q p = _; unfold kDrop; rw [if_pos he]
                by_cases hpa : K.S q 1 = s
                · have hki : ¬ (K.S q 0 = 1 ∨ K.S q 0 = 3) := fun h => by unfold Ker.still at he; rcases h with h | h <;> simp [hpa, h] at he
                  have eki : (K.S q 0 != 1) = true := by simp; omega
                  have ekj : (K.S q 0 != 3) = true := by simp; omega
                  rw [hpa] at z1
                  clear hki he
                  generalize K.S q 0 = kq at *
                  go_wp2
                  go_ret2
                  exact REnds.mk E HM1.out HU.out HP1.out
                · have epa : (K.S q 1 != (s : Int)) = true := by simpa using hpa
                  clear hpa he
                  generalize K.S q 1 = pq at *
                  go_wp2
                  go_ret2
                  exact REnds.mk E HM1.out HU.out HP1.out
            · obtain ⟨q, rfl, hq⟩ := fits_num (t := 2) HFF.out.1 (by decide)
              obtain ⟨x, rfl, hx⟩ := fits_num (t := 5) HFF.out.2.1 (by decide)
              have hq' : q < r.nS := by have := ES.out; omega
              have q1 : (0 : Int) ≤ (q : Int) := by omega
              have q2 : (q : Int) < (r.nS : Int) := by omega
              have z0 : wr.cell? ⟨B.bp, q * 12, none⟩ = some (.int .i64 (r.P q 0)) := HM1.out.pr q 0 hq' (by omega)
              have z1 := HM1.out.pr q 1 hq' (by omega)
              rw [HU.out.kind (by omega)] at z0
              rw [HU.out.parent (by omega)] at z1
              have k1 := HM1.out.k1
              cases he : K.still s q with
              | true =>
                have hkk := still_kind (K := K) (s := s) (c := q) (by simp [he])
                rw [hkk.1] at z1
                have E : Hid (kCall K s (11 : Nat) q x c = kShut K s q x) := by unfold Hid; rw [E0.out]; rfl
                rcases hkk.2 with hk1 | hk1
                all_goals
                  rw [hk1] at z0
                  go_wp2_with fail
                  refine (undone_shut HM1.out HU.out I N E' (by omega) (by omega) he).mono ?_
                  rintro e w2 ⟨rfl, ⟨r2, m2', u2⟩, p2⟩
                  generalize kShut K s q x = out at *
                  go_wp2
                  go_ret2
                  exact REnds.mk E m2' u2 (HP1.out.trans p2)
              | false =>
                have E : Hid (kCall K s (11 : Nat) q x c = ⟨K, 0, 7⟩) := by unfold Hid; rw [E0.out]; show kShut K s q x = _; unfold kShut; rw [if_pos he]
                by_cases hpa : K.S q 1 = s
                · have hki : ¬ (K.S q 0 = 1 ∨ K.S q 0 = 3) := fun h => by unfold Ker.still at he; rcases h with h | h <;> simp [hpa, h] at he
                  have eki : (K.S q 0 != 1) = true := by simp; omega
                  have ekj : (K.S q 0 != 3) = true := by simp; omega
                  rw [hpa] at z1
                  clear hki he
                  generalize K.S q 0 = kq at *
                  go_wp2
                  go_ret2
                  exact REnds.mk E HM1.out HU.out HP1.out
                · have epa : (K.S q 1 != (s : Int)) = true := by simpa using hpa
                  clear hpa he
                  generalize K.S q 1 = pq at *
                  go_wp2
                  go_ret2
                  exact REnds.mk E HM1.out HU.out HP1.out
            · obtain ⟨q, rfl, hq⟩ := fits_num (t := 2) HFF.out.1 (by decide)
              have hq' : q < r.nS := by have := ES.out; omega
              have q1 : (0 : Int) ≤ (q : Int) := by omega
              have q2 : (q : Int) < (r.nS : Int) := by omega
              have z0 : wr.cell? ⟨B.bp, q * 12, none⟩ = some (.int .i64 (r.P q 0)) := HM1.out.pr q 0 hq' (by omega)
              have z1 := HM1.out.pr q 1 hq' (by omega)
              rw [HU.out.kind (by omega)] at z0
              rw [HU.out.parent (by omega)] at z1
              have k1 := HM1.out.k1
              cases he : K.still s q with
              | true =>
                have hkk := still_kind (K := K) (s := s) (c := q) (by simp [he])
                rw [hkk.1] at z1
                have E : Hid (kCall K s (12 : Nat) q b c = kReap K s q) := by unfold Hid; rw [E0.out]; rfl
                rcases hkk.2 with hk1 | hk1
                all_goals
                  rw [hk1] at z0
                  go_wp2_with fail
                  refine (undone_reap HM1.out HU.out I b (by omega) he).mono ?_
                  rintro e w2 ⟨rfl, ⟨r2, m2', u2⟩, p2⟩
                  generalize kReap K s q = out at *
                  go_wp2
                  go_ret2
                  exact REnds.mk E m2' u2 (HP1.out.trans p2)
              | false =>
                have E : Hid (kCall K s (12 : Nat) q b c = ⟨K, 0, 7⟩) := by unfold Hid; rw [E0.out]; show kReap K s q = _; unfold kReap; rw [if_pos he]
                by_cases hpa : K.S q 1 = s
                · have hki : ¬ (K.S q 0 = 1 ∨ K.S q 0 = 3) := fun h => by unfold Ker.still at he; rcases h with h | h <;> simp [hpa, h] at he
                  have eki : (K.S q 0 != 1) = true := by simp; omega
                  have ekj : (K.S q 0 != 3) = true := by simp; omega
                  rw [hpa] at z1
                  clear hki he
                  generalize K.S q 0 = kq at *
                  go_wp2
                  go_ret2
                  exact REnds.mk E HM1.out HU.out HP1.out
                · have epa : (K.S q 1 != (s : Int)) = true := by simpa using hpa
                  clear hpa he
                  generalize K.S q 1 = pq at *
                  go_wp2
                  go_ret2
                  exact REnds.mk E HM1.out HU.out HP1.out
            · obtain ⟨d, rfl, hd⟩ := fits_num (t := 3) HFF.out.1 (by decide)
              obtain ⟨f, rfl, hf⟩ := fits_num (t := 1) HFF.out.2.1 (by decide)
              obtain ⟨x, rfl, hx⟩ := fits_num (t := 5) HFF.out.2.2 (by decide)
              have E : Hid (kCall K s (13 : Nat) d f x = kPipe K s d f x) := by unfold Hid; rw [E0.out]; rfl
              go_wp2_with fail
              refine (files_pipe HM1.out HU.out O I N (by have := ES.out; omega) (by omega) (by omega) (by omega)).mono ?_
              rintro e w2 ⟨rfl, ⟨r2, m2', u2⟩, p2⟩
              generalize kPipe K s d f x = out at *
              go_wp2
              go_ret2
              exact REnds.mk E m2' u2 (HP1.out.trans p2)
            · obtain ⟨x, rfl, hx⟩ := fits_num (t := 5) HFF.out.1 (by decide)
              obtain ⟨t, rfl, ht⟩ := fits_num (t := 5) HFF.out.2.1 (by decide)
              have E : Hid (kCall K s (14 : Nat) x t c = kDup K s x t) := by unfold Hid; rw [E0.out]; rfl
              go_wp2_with fail
              refine (files_dup HM1.out HU.out I c (by have := ES.out; omega) (by omega) (by omega)).mono ?_
              rintro e w2 ⟨rfl, ⟨r2, m2', u2⟩, p2⟩
              generalize kDup K s x t = out at *
              go_wp2
              go_ret2
              exact REnds.mk E m2' u2 (HP1.out.trans p2)
            · obtain ⟨x, rfl, hx⟩ := fits_num (t := 5) HFF.out.1 (by decide)
              have E : Hid (kCall K s (15 : Nat) x b c = kClose K s x) := by unfold Hid; rw [E0.out]; rfl
              go_wp2_with fail
              refine (files_close HM1.out HU.out I N E' b c (by have := ES.out; omega) (by omega)).mono ?_
              rintro e w2 ⟨rfl, ⟨r2, m2', u2⟩, p2⟩
              generalize kClose K s x = out at *
              go_wp2
              go_ret2
              exact REnds.mk E m2' u2 (HP1.out.trans p2)
            · obtain ⟨x, rfl, hx⟩ := fits_num (t := 5) HFF.out.1 (by decide)
              obtain ⟨p, rfl, hp⟩ := fits_num (t := 4) HFF.out.2.1 (by decide)
              obtain ⟨j, rfl, hj⟩ := fits_num (t := 6) HFF.out.2.2 (by decide)
              have E : Hid (kCall K s (16 : Nat) x p j = kWrite K s x p j) := by unfold Hid; rw [E0.out]; rfl
              go_wp2_with fail
              refine (words_write HM1.out HU.out O I (by have := ES.out; omega) (by omega) (by omega) (by omega)).mono ?_
              rintro e w2 ⟨rfl, ⟨r2, m2', u2⟩, p2⟩
              generalize kWrite K s x p j = out at *
              go_wp2
              go_ret2
              exact REnds.mk E m2' u2 (HP1.out.trans p2)
            · obtain ⟨x, rfl, hx⟩ := fits_num (t := 5) HFF.out.1 (by decide)
              obtain ⟨p, rfl, hp⟩ := fits_num (t := 4) HFF.out.2.1 (by decide)
              obtain ⟨j, rfl, hj⟩ := fits_num (t := 6) HFF.out.2.2 (by decide)
              have E : Hid (kCall K s (17 : Nat) x p j = kRead K s x p j) := by unfold Hid; rw [E0.out]; rfl
              go_wp2_with fail
              refine (words_read HM1.out HU.out O I (by have := ES.out; omega) (by omega) (by omega) (by omega)).mono ?_
              rintro e w2 ⟨rfl, ⟨r2, m2', u2⟩, p2⟩
              generalize kRead K s x p j = out at *
              go_wp2
              go_ret2
              exact REnds.mk E m2' u2 (HP1.out.trans p2)
            · obtain ⟨p, rfl, hp⟩ := fits_num (t := 4) HFF.out.1 (by decide)
              obtain ⟨j, rfl, hj⟩ := fits_num (t := 6) HFF.out.2.1 (by decide)
              have E : Hid (kCall K s (18 : Nat) p j c = kLoad K s p j) := by unfold Hid; rw [E0.out]; rfl
              go_wp2_with fail
              refine (memory_load HM1.out HU.out O N I.good c (by have := ES.out; omega) (by omega) (by omega)).mono ?_
              rintro e w2 ⟨rfl, ⟨r2, m2', u2⟩, p2⟩
              generalize kLoad K s p j = out at *
              go_wp2
              go_ret2
              exact REnds.mk E m2' u2 (HP1.out.trans p2)
            · obtain ⟨p, rfl, hp⟩ := fits_num (t := 4) HFF.out.1 (by decide)
              obtain ⟨j, rfl, hj⟩ := fits_num (t := 6) HFF.out.2.1 (by decide)
              have E : Hid (kCall K s (19 : Nat) p j c = kStore K s p j c) := by unfold Hid; rw [E0.out]; rfl
              go_wp2_with fail
              refine (memory_store HM1.out HU.out O N I.good c (by have := ES.out; omega) (by omega) (by omega)).mono ?_
              rintro e w2 ⟨rfl, ⟨r2, m2', u2⟩, p2⟩
              generalize kStore K s p j c = out at *
              go_wp2
              go_ret2
              exact REnds.mk E m2' u2 (HP1.out.trans p2)
      · have E : Hid (kCall K s n a b c = ⟨K, 0, 3⟩) := by
          unfold kCall Hid
          rw [if_neg (by omega), if_pos (Or.inr (by rw [Int.toNat_natCast]; exact hk))]
        have ek : (K.S s 0 != 2) = true := by simpa using hk
        clear hk
        generalize K.S s 0 = kk at *
        go_enter Tryz.func17, Tryz.ntmps17
        go_wp2_with fail
        refine (in_any _ _ _).mono ?_
        rintro e w1 ⟨rfl, rfl⟩
        rw [hb1]
        go_wp2_with fail
        refine (in_any _ _ _).mono ?_
        rintro e w1 ⟨rfl, rfl⟩
        rw [hb2]
        go_wp2
        go_ret2
        exact REnds.mk E (HM.out.alloc _) HU.out ((RKeeps.refl w).alloc _)
    · have E : Hid (kCall K slot n a b c = ⟨K, 0, 3⟩) := by
        unfold kCall Hid
        rw [if_neg (by omega), if_pos (Or.inl hs)]
      have hb2 : inB slot (r.nS : Int) = false := by
        rw [Bool.eq_false_iff]; intro h; have := inB_true.1 h; have := ES.out; omega
      go_enter Tryz.func17, Tryz.ntmps17
      go_wp2_with fail
      refine (in_any _ _ _).mono ?_
      rintro e w1 ⟨rfl, rfl⟩
      rw [hb1]
      go_wp2_with fail
      refine (in_any _ _ _).mono ?_
      rintro e w1 ⟨rfl, rfl⟩
      rw [hb2]
      go_wp2
      go_ret2
      exact REnds.mk E (HM.out.alloc _) HU.out ((RKeeps.refl w).alloc _)
  · have E : Hid (kCall K slot call a b c = ⟨K, 0, 2⟩) := by
      unfold kCall Hid
      rw [if_pos (by omega)]
    by_cases hmin : call = -9223372036854775808
    · subst hmin
      go_enter Tryz.func17, Tryz.ntmps17
      go_wp2_with fail
      refine (in_any _ _ _).mono ?_
      rintro e w1 ⟨rfl, rfl⟩
      rw [show inB (wrap64 (-9223372036854775809)) 19 = false from by rw [show wrap64 (-9223372036854775809) = 9223372036854775807 from by unfold wrap64; omega]; decide]
      go_wp2
      go_ret2
      exact REnds.mk E (HM.out.alloc _) HU.out ((RKeeps.refl w).alloc _)
    · have hb1 : inB (call - 1) 19 = false := by
        rw [Bool.eq_false_iff]; intro h; have := inB_true.1 h; omega
      go_enter Tryz.func17, Tryz.ntmps17
      go_wp2_with fail
      refine (in_any _ _ _).mono ?_
      rintro e w1 ⟨rfl, rfl⟩
      rw [hb1]
      go_wp2
      go_ret2
      exact REnds.mk E (HM.out.alloc _) HU.out ((RKeeps.refl w).alloc _)
end
end Go.Proofs.YtcgabodkegcpgaaGreatDoor
