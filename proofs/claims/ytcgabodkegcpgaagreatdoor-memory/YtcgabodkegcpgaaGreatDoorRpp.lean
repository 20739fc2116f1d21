/- What the kernel's call Reap does (for every kernel whose numbers are ones). -/
import Derived.Test.YtcgabodkegcpgaaGreatDoorPrc
import Derived.Test.YtcgabodkegcpgaaGreatDoorNew1
import Derived.Deep.RegionHeld3
import Derived.Deep.DrawnRows
namespace Go.Proofs.YtcgabodkegcpgaaGreatDoor
open Go.RowKit
set_option linter.unusedVariables false
attribute [local go_sem ↓] Go.wp_at_zero Go.wp_at_succ

section
variable {bk bf bs bd : Nat} {K : Ker} {w : World}

theorem Rep.noSlot (R : Rep w bk bf bs bd K) {c : Nat} (hc : c < K.nS) : Rep (w.setCells bs (c * 20) noneCells) bk bf bs bd (K.noSlot c) := by
  have th : ∀ j, j < noneCells.length → (w.cell? ⟨bs, c * 20 + j, none⟩).isSome = true := fun j hj => by
    rw [noneCells_len] at hj
    by_cases hb : isB j
    · rw [R.b c j hc hb]; rfl
    · rw [R.s c j hc hj hb]; rfl
  have ot : ∀ b o, b ≠ bs → (w.setCells bs (c * 20) noneCells).cell? ⟨b, o, none⟩ = w.cell? ⟨b, o, none⟩ := fun b o hb => World.cell?_setCells_out bs noneCells (c * 20) w ⟨b, o, none⟩ (fun h => absurd h hb)
  have os : ∀ i j, i ≠ c → j < 20 → (w.setCells bs (c * 20) noneCells).cell? ⟨bs, i * 20 + j, none⟩ = w.cell? ⟨bs, i * 20 + j, none⟩ := fun i j hi hj => World.cell?_setCells_out bs noneCells (c * 20) w ⟨bs, i * 20 + j, none⟩ (fun _ _ => by rw [noneCells_len]; show i * 20 + j < c * 20 ∨ c * 20 + 20 ≤ i * 20 + j; omega)
  have ins : ∀ j (hj : j < 20), (w.setCells bs (c * 20) noneCells).cell? ⟨bs, c * 20 + j, none⟩ = some (noneCells[j]'(by rw [noneCells_len]; exact hj)) := fun j hj => World.cell?_setCells_in bs noneCells (c * 20) w th j (by rw [noneCells_len]; exact hj)
  refine ⟨by rw [ot _ _ R.ks]; exact R.k0, by rw [ot _ _ R.ks]; exact R.k1, by rw [ot _ _ R.ks]; exact R.k2, fun i j hi hj => by rw [ot _ _ R.fs]; exact R.f i j hi hj, ?_, ?_, fun i j hi hj => by rw [ot _ _ (fun e => R.sd e.symm)]; exact R.d i j hi hj, fun o => by rw [World.frozen?_setCells]; exact R.zf o, fun o => by rw [World.frozen?_setCells]; exact R.zs o, fun o => by rw [World.frozen?_setCells]; exact R.zd o, by rw [size_setCells]; exact R.lk, by rw [size_setCells]; exact R.lf, by rw [size_setCells]; exact R.ls, by rw [size_setCells]; exact R.ld, R.kf, R.ks, R.kd, R.fs, R.fd, R.sd, R.hF, R.hS, R.hD⟩
  · intro i j hi hj hb
    by_cases e : i = c
    · subst e
      rw [ins j hj]
      show some _ = some (Value.int .i64 (if i = i then (if j = 0 ∨ j = 19 then 0 else -1) else K.S i j))
      rw [if_pos rfl]
      obtain rfl | rfl | rfl | rfl | rfl | rfl | rfl | rfl | rfl | rfl | rfl | rfl : j = 0 ∨ j = 1 ∨ j = 2 ∨ j = 3 ∨ j = 5 ∨ j = 7 ∨ j = 9 ∨ j = 11 ∨ j = 13 ∨ j = 15 ∨ j = 17 ∨ j = 19 := by unfold isB at hb; omega
      all_goals rfl
    · rw [os i j e hj, R.s i j hi hj hb]
      show _ = some (Value.int .i64 (if i = c then (if j = 0 ∨ j = 19 then 0 else -1) else K.S i j))
      rw [if_neg e]
  · intro i j hi hb
    have hj : j < 20 := by unfold isB at hb; omega
    by_cases e : i = c
    · subst e
      rw [ins j hj]
      show some _ = some (Value.bool (if i = i then false else K.B i j))
      rw [if_pos rfl]
      obtain rfl | rfl | rfl | rfl | rfl | rfl | rfl | rfl : j = 4 ∨ j = 6 ∨ j = 8 ∨ j = 10 ∨ j = 12 ∨ j = 14 ∨ j = 16 ∨ j = 18 := by unfold isB at hb; omega
      all_goals rfl
    · rw [os i j e hj, R.b i j hi hb]
      show _ = some (Value.bool (if i = c then false else K.B i j))
      rw [if_neg e]
theorem Keeps.setCells {a : World} (h : Keeps bf bs bd a w) : ∀ (vs : List Value) (o : Nat), Keeps bf bs bd a (w.setCells bs o vs) := fun vs => by
  induction vs generalizing w with
  | nil => intro o; exact h
  | cons v r ih => intro o; exact ih (h.setS o v) (o + 1)

/-- How the two looks of Reap end: the first page that has a frame; the first file that is one. -/
theorem reap_page (K : Ker) (s c : Nat) (h0 : K.still s c = true) (p : Nat) (hp : p < 4) (h : K.page c p ≠ -1) : kReap K s c = ⟨K, 0, 6⟩ := by
  unfold kReap
  rw [if_neg (by simp [h0]), if_pos]
  obtain rfl | rfl | rfl | rfl : p = 0 ∨ p = 1 ∨ p = 2 ∨ p = 3 := by omega
  · exact Or.inl h
  · exact Or.inr (Or.inl h)
  · exact Or.inr (Or.inr (Or.inl h))
  · exact Or.inr (Or.inr (Or.inr h))
theorem reap_file (K : Ker) (s c : Nat) (h0 : K.still s c = true) (hp : ∀ p, p < 4 → K.page c p = -1) (x : Nat) (hx : x < 4) (h : K.file c x ≠ -1) : kReap K s c = ⟨K, 0, 8⟩ := by
  unfold kReap
  rw [if_neg (by simp [h0]), if_neg (by simp [hp 0 (by omega), hp 1 (by omega), hp 2 (by omega), hp 3 (by omega)]), if_pos]
  obtain rfl | rfl | rfl | rfl : x = 0 ∨ x = 1 ∨ x = 2 ∨ x = 3 := by omega
  · exact Or.inl h
  · exact Or.inr (Or.inl h)
  · exact Or.inr (Or.inr (Or.inl h))
  · exact Or.inr (Or.inr (Or.inr h))
theorem reap_done (K : Ker) (s c : Nat) (h0 : K.still s c = true) (hp : ∀ p, p < 4 → K.page c p = -1) (hx : ∀ x, x < 4 → K.file c x = -1) : kReap K s c = ⟨(K.become (K.S c 2).toNat 0 (-1)).noSlot c, K.S c 19, 0⟩ := by
  unfold kReap
  rw [if_neg (by simp [h0]), if_neg (by simp [hp 0 (by omega), hp 1 (by omega), hp 2 (by omega), hp 3 (by omega)]), if_neg (by simp [hx 0 (by omega), hx 1 (by omega), hx 2 (by omega), hx 3 (by omega)])]

theorem Rep.there (R : Rep w bk bf bs bd K) {c : Nat} (hc : c < K.nS) : w.there bs (c * 20) 20 := fun j hj => by
  refine ⟨?_, R.zs _⟩
  by_cases hb : isB j
  · rw [R.b c j hc hb]; rfl
  · rw [R.s c j hc hj hb]; rfl
theorem Rep.belowed {w' : World} (R : Rep w bk bf bs bd K) (b : Below w.heap.size w w') : Rep w' bk bf bs bd K := R.same b.size (fun k h1 _ => b.block k h1)

theorem store_cells {P : Program} {w : World} {b o : Nat} {cs : List Value} (ht : w.there b o cs.length) (h1 : ∀ v ∈ cs, v.oneCell' = true) : Sem.run P (storeCells ⟨b, o, none⟩ cs) w = .ok () (w.setCells b o cs) := by
  have := run_storeCells_cells (P := P) b o cs 0 w (fun j hj => by simpa using (ht j hj).1) (fun j hj => by simpa using (ht j hj).2) h1
  simpa using this

set_option maxRecDepth 100000 in
set_option maxHeartbeats 2000000 in
theorem reap_rep (R : Rep w bk bf bs bd K) (G : Good K) {s c : Nat} (y z : Int) (hs : s < K.nS) (hc : c < K.nS) :
    Calls Tryz.prog 70 #[.pointer (some ⟨bk, 0, none⟩), .int .i64 s, .agg #[.int .i64 c, .int .i64 y, .int .i64 z]] w (Ends bk bf bs bd w (kReap K s c)) := by
  have HR : Hid (Rep w bk bf bs bd K) := R
  have hn := R.hS; have hm := R.hF
  clear R
  by_cases h0 : K.still s c = true
  · have hk0 : K.S c 0 ≠ 0 := by intro h; unfold Ker.still at h0; rw [h] at h0; simp at h0
    obtain ⟨t, ht⟩ : ∃ t : Nat, K.S c 2 = t := ⟨(K.S c 2).toNat, by have := G.tab c hc hk0; omega⟩
    have htl : t < K.nF := by have := G.tab c hc hk0; omega
    have Ht : Hid (K.S c 2 = t) := ht
    clear hk0 ht
    go_enter Tryz.func70, Tryz.ntmps70
    go_wp2_with fail
    refine (isStillOf_rep (HR.out.alloc _) hc).mono ?_
    rintro e w1 ⟨rfl, rfl⟩
    go_wp2
    go_loop [19] (fun i => ∃ k : Nat, k ≤ 4 ∧ i = .int .i64 k ∧ ∀ p, p < k → K.page c p = -1) (fun i => 4 - (intOf i).toNat)
    case atStart => exact ⟨0, by omega, rfl, fun p hp => by omega⟩
    case round =>
      obtain ⟨k, hk, rfl, hpg⟩ := hrel
      have Hp : Hid (∀ p, p < k → K.page c p = -1) := hpg
      clear hpg
      by_cases hlt : k < 4
      · by_cases h1 : K.page c k = -1
        · have e1 : (K.S c (3 + k * 2) != -1) = false := by simpa [Ker.page] using h1
          have Hk : Hid (K.page c k = -1) := h1
          clear h1
          go_wp2_with fail
          refine (hasFrame_rep (HR.out.alloc _) hc hlt).mono ?_
          rintro e w1 ⟨rfl, rfl⟩
          go_wp2
          exact ⟨⟨k + 1, by omega, by go_num, fun p hp => by by_cases e : p = k; rw [e]; exact Hk.out; exact Hp.out p (by omega)⟩, by simp [intOf]; omega⟩
        · have e1 : (K.S c (3 + k * 2) != -1) = true := by simpa [Ker.page] using h1
          have E : Hid (kReap K s c = ⟨K, 0, 6⟩) := reap_page K s c h0 k hlt h1
          clear h1
          go_wp2_with fail
          refine (hasFrame_rep (HR.out.alloc _) hc hlt).mono ?_
          rintro e w1 ⟨rfl, rfl⟩
          go_wp2
          go_ret2
          exact Ends.mk E (HR.out.alloc _) ((Keeps.refl w).alloc _)
      · obtain rfl : k = 4 := by omega
        go_wp2
        go_loop [27] (fun i => ∃ k : Nat, k ≤ 4 ∧ i = .int .i64 k ∧ ∀ x, x < k → K.file c x = -1) (fun i => 4 - (intOf i).toNat)
        case atStart => exact ⟨0, by omega, rfl, fun p hp => by omega⟩
        case round =>
          obtain ⟨k, hk, rfl, hfl⟩ := hrel
          have Hf : Hid (∀ x, x < k → K.file c x = -1) := hfl
          clear hfl
          by_cases hlt : k < 4
          · by_cases h1 : K.file c k = -1
            · have e1 : (K.S c (11 + k * 2) != -1) = false := by simpa [Ker.file] using h1
              have Hk : Hid (K.file c k = -1) := h1
              clear h1
              go_wp2_with fail
              refine (isFile_rep (HR.out.alloc _) hc hlt).mono ?_
              rintro e w1 ⟨rfl, rfl⟩
              go_wp2
              exact ⟨⟨k + 1, by omega, by go_num, fun p hp => by by_cases e : p = k; rw [e]; exact Hk.out; exact Hf.out p (by omega)⟩, by simp [intOf]; omega⟩
            · have e1 : (K.S c (11 + k * 2) != -1) = true := by simpa [Ker.file] using h1
              have E : Hid (kReap K s c = ⟨K, 0, 8⟩) := reap_file K s c h0 Hp.out k hlt h1
              clear h1
              go_wp2_with fail
              refine (isFile_rep (HR.out.alloc _) hc hlt).mono ?_
              rintro e w1 ⟨rfl, rfl⟩
              go_wp2
              go_ret2
              exact Ends.mk E (HR.out.alloc _) ((Keeps.refl w).alloc _)
          · obtain rfl : k = 4 := by omega
            have E : Hid (kReap K s c = ⟨(K.become t 0 (-1)).noSlot c, K.S c 19, 0⟩) := by unfold Hid; rw [reap_done K s c h0 Hp.out Hf.out, Ht.out, Int.toNat_natCast]
            have k1 := fun o => (HR.out.alloc o).k1
            have c1 := fun o => (HR.out.alloc o).sc hc
            have c2 : ∀ o, (w.alloc o).cell? ⟨bs, c * 20 + 2, none⟩ = some (.int .i64 t) := fun o => by rw [(HR.out.alloc o).st hc, Ht.out]
            go_wp2_with fail
            refine (become_rep (HR.out.alloc _) 0 (-1) htl).mono ?_
            rintro e w2 ⟨rfl, R2, q2⟩
            have HR2 : Hid (Rep w2 bk bf bs bd (K.become t 0 (-1))) := R2
            have Hq2 : Hid (Keeps bf bs bd w w2) := ((Keeps.refl w).alloc _).trans q2
            have hc2 : c < (K.become t 0 (-1)).nS := hc
            clear R2 q2 k1 c1 c2
            generalize K.become t 0 (-1) = K2 at *
            have r1 := HR2.out.k1
            have r2 := HR2.out.hS
            have i1 : (0 : Int) ≤ (c : Int) := by omega
            have i2 : (c : Int) < (K2.nS : Int) := by omega
            obtain ⟨cs, hcs⟩ : ∃ cs, cs = noneCells := ⟨_, rfl⟩
            have hl : Hid (cs.length = 20) := by unfold Hid; rw [hcs]; exact noneCells_len
            have hi2 : Hid ((Tryz.prog.info? 82).map (·.size) = some cs.toArray.size) := by unfold Hid; rw [hcs, List.size_toArray, noneCells_len]; kernel_rfl
            have h1a : Hid (∀ v ∈ cs, v.oneCell' = true) := by unfold Hid; rw [hcs]; exact fun v hv => Array.all_eq_true_iff_forall_mem.1 noneCells_one v (by simpa using hv)
            have n1 := HR2.out.ks
            have n2 : bs ≠ bk := fun e => n1 e.symm
            have CE : Hid (∀ w, Calls Tryz.prog 29 #[] w fun e w' => e = .returned (.agg cs.toArray) ∧ Below w.heap.size w w') := by unfold Hid; rw [hcs]; exact emptySlot_any
            have HN : Hid (∀ w3, Rep w3 bk bf bs bd K2 → Rep (w3.setCells bs (c * 20) cs) bk bf bs bd (K2.noSlot c)) := by unfold Hid; rw [hcs]; exact fun w3 R3 => R3.noSlot hc2
            clear hcs
            have hc3 : c < (K2.noSlot c).nS := hc2
            go_wp2_with fail
            go_region_held3 (fun w' => w'.cell? ⟨bk, 1, none⟩ = some (.slice (some ⟨bs, 0, none⟩) K2.nS K2.nS)) (go_keep) (first | (go_at_call 29; refine (CE.out _).mono ?_; rintro e w3 ⟨rfl, b3⟩; have HR3 : Hid (Rep w3 bk bf bs bd K2) := HR2.out.drew.belowed b3; have Hq3 : Hid (Keeps bf bs bd w w3) := Hq2.out.drew.trans ⟨b3.os, b3.tape, b3.output, b3.size, fun k h1 _ _ _ => b3.block k h1⟩; have t4 := HR3.out.k1; have t6 : (w3.setCells bs (c * 20) cs).cell? ⟨bk, 1, none⟩ = some (.slice (some ⟨bs, 0, none⟩) K2.nS K2.nS) := (HN.out w3 HR3.out).k1; have st := store_cells (P := Tryz.prog) (w := w3) (b := bs) (o := c * 20) (cs := cs) (by rw [hl.out]; exact HR3.out.there hc2) h1a.out; clear b3))
            go_wp2
            go_ret2
            exact Ends.mk E (HN.out _ HR3.out) (Hq3.out.setCells cs (c * 20))
  · have h0' : K.still s c = false := by simpa using h0
    have E : Hid (kReap K s c = ⟨K, 0, 7⟩) := by unfold kReap; simp [h0', Hid]
    clear h0
    go_enter Tryz.func70, Tryz.ntmps70
    go_wp2_with fail
    refine (isStillOf_rep (HR.out.alloc _) hc).mono ?_
    rintro e w1 ⟨rfl, rfl⟩
    go_wp2
    go_ret2
    exact Ends.mk E (HR.out.alloc _) ((Keeps.refl w).alloc _)
end
end Go.Proofs.YtcgabodkegcpgaaGreatDoor
