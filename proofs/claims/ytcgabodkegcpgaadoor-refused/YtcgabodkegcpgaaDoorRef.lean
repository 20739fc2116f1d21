/- burrowlaw.Refused answers true for all settings and every script. -/
import Derived.Test.YtcgabodkegcpgaaDoorKeq
import Derived.Test.YtcgabodkegcpgaaDoorSty
import Derived.Test.YtcgabodkegcpgaaDoorPur
import Derived.Test.YtcgabodkegcpgaaDoorAll
import Derived.Test.YtcgabodkegcpgaaDoorSet
import Derived.Test.YtcgabodkegcpgaaDoorSix
import Derived.Test.YtcgabodkegcpgaaDoorScr
namespace Go.Proofs.YtcgabodkegcpgaaDoor
open Go.RowKit
set_option linter.unusedVariables false
set_option linter.unusedSimpArgs false
attribute [local go_sem ↓] Go.wp_at_zero Go.wp_at_succ

/-- What holds of the kernel between two acts: w0 is the world at the start, C the settings' block. -/
structure Holds (w0 w : World) (bk bf bs bd C nS : Nat) (K : Ker) : Prop where
  rep : Rep w bk bf bs bd K
  inv : Inv K
  own : Own K
  tab : Tab w
  bel : Below w0.heap.size w0 w
  cfg : w.cell? ⟨C, 1, none⟩ = some (.int .i64 nS)
  hS : K.nS = nS
  c : C < w.heap.size
  ck : C ≠ bk
  cf : C ≠ bf
  cs : C ≠ bs
  cd : C ≠ bd
  pos : 0 < w0.heap.size
  lf : w0.heap.size ≤ bf
  ls : w0.heap.size ≤ bs
  ld : w0.heap.size ≤ bd
section
variable {w0 w w' : World} {bk bf bs bd C nS : Nat} {K K' : Ker}
theorem Holds.step (H : Holds w0 w bk bf bs bd C nS K) (b : Below w.heap.size w w') : Holds w0 w' bk bf bs bd C nS K :=
  ⟨H.rep.same b.size (fun k hk _ => b.block k hk), H.inv, H.own, H.tab.same (b.block 0 H.tab.lt), below_then H.bel b H.bel.size, below_cell b H.c H.cfg, H.hS, Nat.lt_of_lt_of_le H.c b.size, H.ck, H.cf, H.cs, H.cd, H.pos, H.lf, H.ls, H.ld⟩
theorem Holds.sizes (H : Holds w0 w bk bf bs bd C nS K) (R : Rep w' bk bf bs bd K') (k : Keeps bf bs bd w w') : SameSize K K' := by
  have e0 := (k.cell (o := 0) H.rep.lk H.rep.kf H.rep.ks H.rep.kd)
  have e1 := (k.cell (o := 1) H.rep.lk H.rep.kf H.rep.ks H.rep.kd)
  have e2 := (k.cell (o := 2) H.rep.lk H.rep.kf H.rep.ks H.rep.kd)
  rw [R.k0, H.rep.k0] at e0
  rw [R.k1, H.rep.k1] at e1
  rw [R.k2, H.rep.k2] at e2
  injection e0 with e0; injection e0 with _ e0 _
  injection e1 with e1; injection e1 with _ e1 _
  injection e2 with e2; injection e2 with _ e2 _
  exact ⟨e0, e1, e2⟩
theorem Holds.call (H : Holds w0 w bk bf bs bd C nS K) (R : Rep w' bk bf bs bd K') (k : Keeps bf bs bd w w') (I : Inv K') (O : Own K') : Holds w0 w' bk bf bs bd C nS K' :=
  ⟨R, I, O, H.tab.keeps k (Nat.lt_of_lt_of_le H.pos H.lf) (Nat.lt_of_lt_of_le H.pos H.ls) (Nat.lt_of_lt_of_le H.pos H.ld), H.bel.trans (k.below H.bel.size H.lf H.ls H.ld), (k.cell H.c H.cf H.cs H.cd).trans H.cfg, (H.sizes R k).s.trans H.hS, Nat.lt_of_lt_of_le H.c k.size, H.ck, H.cf, H.cs, H.cd, H.pos, H.lf, H.ls, H.ld⟩
end

theorem kept_of {K K' : Ker} (G : Good K) {q : Nat} (hq : q < K.nS) (h : Stays K K' q) : Kept K K' q := by
  refine ⟨h.s 0 (by omega), h.s 2 (by omega), fun j h1 h2 => ?_, fun j hj => ?_⟩
  · unfold sCell
    have e1 : (q * 20 + j) / 20 = q := by omega
    have e2 : (q * 20 + j) % 20 = j := by omega
    rw [e1, e2, h.s j (by omega), h.b j]
  · have hg := G.page q j hq hj
    rcases hg with hg | hg
    · left; unfold Ker.page at hg; omega
    · right
      unfold Ker.page at hg
      refine ⟨(K.S q (3 + j * 2)).toNat, by omega, by omega, fun i _ => h.f j hj _ ?_ i⟩
      unfold Ker.page; omega

set_option maxRecDepth 100000 in
set_option maxHeartbeats 4000000 in
theorem refused_any (w : World) (T : Tab w) (x y z : Int) (hx : -9223372036854775808 ≤ x ∧ x < 9223372036854775808) (hy : -9223372036854775808 ≤ y ∧ y < 9223372036854775808) (hz : -9223372036854775808 ≤ z ∧ z < 9223372036854775808)
    (a : Option Addr) (n c : Nat) (hn : n ≤ maxLen) (WA : Hid (Script w a n)) :
    Calls Tryd.prog 4 #[.agg #[.int .i64 x, .int .i64 y, .int .i64 z], .slice a n c] w fun e w' => e = .returned (.bool true) ∧ Below w.heap.size w w' := by
  have HT : Hid (Tab w) := T
  have Hx : Hid (-9223372036854775808 ≤ x ∧ x < 9223372036854775808) := hx
  have Hy : Hid (-9223372036854775808 ≤ y ∧ y < 9223372036854775808) := hy
  have Hz : Hid (-9223372036854775808 ≤ z ∧ z < 9223372036854775808) := hz
  have hn' : n ≤ 9223372036854775807 := by simpa [maxLen] using hn
  clear T hx hy hz hn
  go_enter Tryd.func4, Tryd.ntmps4
  go_wp2_with fail
  refine (works_any _ (HT.out.alloc _)).mono ?_
  rintro e w0 ⟨rfl, b0⟩
  have q0 : w0.heap[w.heap.size]? = some (.cells #[.int .i64 x, .int .i64 y, .int .i64 z] 30) := (b0.block _ (by simp)).trans (heap_new w _)
  have B0 : Hid (Below w.heap.size w w0 ∧ w.heap.size < w0.heap.size) := ⟨below_then ((Below.refl _ _).alloc (Nat.le_refl _) _) b0 (by simp), Nat.lt_of_lt_of_le (by simp) b0.size⟩
  have k0 : w0.cell? ⟨w.heap.size, 0, none⟩ = some (.int .i64 x) := cell_of_obj q0 0
  have k1 : w0.cell? ⟨w.heap.size, 1, none⟩ = some (.int .i64 y) := cell_of_obj q0 1
  have k2 : w0.cell? ⟨w.heap.size, 2, none⟩ = some (.int .i64 z) := cell_of_obj q0 2
  have Q0 : Hid (w0.heap[w.heap.size]? = some (.cells #[.int .i64 x, .int .i64 y, .int .i64 z] 30)) := q0
  clear q0 b0
  go_wp2_with fail
  refine (settings_any x y z Hx.out Hy.out Hz.out _).mono ?_
  rintro e w1 ⟨rfl, b1⟩
  have hl1 := pickN_lt x (n := 31) (by omega)
  have hl2 := pickN_lt y (n := 6) (by omega)
  have hl3 := pickN_lt z (n := 5) (by omega)
  obtain ⟨nF, hF⟩ : ∃ nF, nF = 2 + pickN x 31 := ⟨_, rfl⟩
  obtain ⟨nS, hS⟩ : ∃ nS, nS = 1 + pickN y 6 := ⟨_, rfl⟩
  obtain ⟨nD, hD⟩ : ∃ nD, nD = pickN z 5 := ⟨_, rfl⟩
  rw [← hF, ← hS, ← hD]
  have N : Hid (2 ≤ nF ∧ nF ≤ 32 ∧ 1 ≤ nS ∧ nS ≤ 6 ∧ nD ≤ 4) := ⟨by omega, by omega, by omega, by omega, by omega⟩
  clear hF hS hD hl1 hl2 hl3 k0 k1 k2
  have Q1 : Hid (w1.heap[w.heap.size]? = some (.cells #[.int .i64 x, .int .i64 y, .int .i64 z] 30)) := (b1.block _ B0.out.2).trans Q0.out
  have B1 : Hid (Below w.heap.size w w1 ∧ w.heap.size < w1.heap.size) := ⟨below_then B0.out.1 b1 (by have := B0.out.2; omega), Nat.lt_of_lt_of_le B0.out.2 b1.size⟩
  clear b1
  have TH : Hid (w1.there w.heap.size 0 3) := rowIs_there (t := 30) (n := 3) (f := fun j => (#[Value.int .i64 x, .int .i64 y, .int .i64 z] : Array Value).getD j (.bool false)) ⟨_, Q1.out, rfl, fun i hi => by
    obtain rfl | rfl | rfl : i = 0 ∨ i = 1 ∨ i = 2 := by omega
    all_goals rfl⟩ (by omega)
  go_wp2_with (refine wpList_store_any rfl 30 _ _ rfl _ 0 #[.int .i64 nF, .int .i64 nS, .int .i64 nD] rfl rfl TH.out (by kernel_rfl) (by kernel_rfl) ?_; intro W2 f1 f2 f3 f4; have m0 : W2.cell? ⟨w.heap.size, 0, none⟩ = some (.int .i64 nF) := f1 0 _ rfl; have m1 : W2.cell? ⟨w.heap.size, 1, none⟩ = some (.int .i64 nS) := f1 1 _ rfl; have m2 : W2.cell? ⟨w.heap.size, 2, none⟩ = some (.int .i64 nD) := f1 2 _ rfl; have B2 : Hid (Below w.heap.size w W2 ∧ w.heap.size < W2.heap.size) := ⟨f4 _ _ B1.out.1 (Nat.le_refl _), by rw [f3]; exact B1.out.2⟩; clear f1 f2 f3 f4)
  refine (new_any nF nS nD N.out.1 N.out.2.1 N.out.2.2.1 N.out.2.2.2.1 N.out.2.2.2.2 W2).mono ?_
  rintro e w3 ⟨bk, bf, bs, bd, rfl, R3, b3, lk, lf, ls, ld⟩
  have HH : Hid (Holds w w3 bk bf bs bd w.heap.size nS (kNew nF nS nD)) := by
    have := B2.out.2
    exact ⟨R3, inv_new nF nS nD N.out.1 N.out.2.2.2.1, own_new nF nS nD N.out.1 N.out.2.2.1, (HT.out.same (B2.out.1.block 0 HT.out.lt)).same (b3.block 0 (by have := HT.out.lt; omega)), below_then B2.out.1 b3 (by omega), below_cell b3 B2.out.2 m1, rfl, by have := b3.size; omega, by omega, by omega, by omega, by omega, HT.out.lt, by omega, by omega, by omega⟩
  clear R3 b3 lk lf ls ld m0 m1 m2
  generalize kNew nF nS nD = K0 at *
  go_wp2
  go_loopw [8] (fun i w' => ∃ (k : Nat) (K : Ker), k ≤ n ∧ i = .int .i64 k ∧ Holds w w' bk bf bs bd w.heap.size nS K) (fun i _ => n - (intOf i).toNat)
  case atStart => exact ⟨0, K0, by omega, rfl, HH.out⟩
  case round =>
    clear HH
    obtain ⟨k, K, hk, rfl, hH⟩ := hrel
    have HH : Hid (Holds w wr bk bf bs bd w.heap.size nS K) := hH
    clear hH
    by_cases hlt : k < n
    · obtain ⟨g, o, ka, s, cl, a0, a1, a2, o0, o1, o2, bb, ea, hg, hr⟩ := WA.out k hlt
      subst ea
      obtain ⟨cs, hcs⟩ : ∃ cs, cs = actCells ka s cl a0 a1 a2 o0 o1 o2 bb := ⟨_, rfl⟩
      rw [← hcs] at hr
      have Hcs : Hid (cs = actCells ka s cl a0 a1 a2 o0 o1 o2 bb) := hcs
      have LA : Hid (wr.rangeAt g (o + k * 10) cs) := range_block hr (HH.out.bel.block g hg)
      have ei : Hid ((Tryd.prog.info? 40).map (·.size) = some cs.length) := by unfold Hid; rw [hcs]; kernel_rfl
      have ei2 : Hid ((Tryd.prog.info? 40).map (·.size) = some cs.toArray.size) := by unfold Hid; rw [hcs]; kernel_rfl
      have z1 : Hid (cs.toArray.size = 10) := by unfold Hid; rw [hcs]; kernel_rfl
      have q1 : Hid (cs.toArray.all (·.oneCell') = true) := by unfold Hid; rw [hcs]; kernel_rfl
      clear hr hcs hg
      have i1 : (0 : Int) ≤ (k : Int) := by omega
      have i2 : (k : Int) < (n : Int) := by omega
      go_wp2_with (first | (refine wpList_load_mid rfl 40 _ rfl g (o + k * 10) rfl cs _ LA.out Tryd.underlying40 rfl ei.out ?_) | (refine wpList_store_any rfl 40 _ _ rfl _ 0 cs.toArray rfl rfl (by rw [z1.out]; exact there_new1 _ _ _ _ (by rfl)) ei2.out q1.out ?_; intro W1 f1 f2 f3 f4; have HW1 : Hid (Below wr.heap.size wr W1 ∧ W1.heap.size = wr.heap.size + 1) := ⟨f4 _ _ ((Below.refl _ _).alloc (Nat.le_refl _) _) (Nat.le_refl _), by rw [f3]; simp⟩; have F1 : Hid (W1.rangeAt wr.heap.size 0 cs) := f1; clear f1 f2 f3 f4))
      have HH1 : Hid (Holds w W1 bk bf bs bd w.heap.size nS K) := HH.out.step HW1.out.1
      refine (state_rep HH1.out.rep).mono ?_
      rintro e w2 ⟨gF, gS, gD, rfl, b2, S2, lF, lS, lD⟩
      have hKS : K.nS = nS := HH1.out.hS
      unfold stVal
      rw [hKS]
      have HL : Hid (W1.heap.size ≤ gF ∧ W1.heap.size ≤ gS ∧ W1.heap.size ≤ gD) := ⟨lF, lS, lD⟩
      have HS2 : Hid (Snap w2 gF gS gD K) := S2
      have HB2 : Hid (Below W1.heap.size W1 w2) := b2
      clear lF lS lD S2 b2 hKS
      go_wp2_with (refine wpList_store_any rfl 45 _ _ rfl _ 0 _ rfl rfl (there_new1 _ _ _ _ (by rfl)) (by kernel_rfl) (by kernel_rfl) ?_; intro W3 f1 f2 f3 f4; have HW3 : Hid (Below w2.heap.size w2 W3 ∧ W3.heap.size = w2.heap.size + 1) := ⟨f4 _ _ ((Below.refl _ _).alloc (Nat.le_refl _) _) (Nat.le_refl _), by rw [f3]; simp⟩; have F3 : Hid (W3.rangeAt w2.heap.size 0 [.slice (some ⟨gF, 0, none⟩) K.nF K.nF, .slice (some ⟨gS, 0, none⟩) nS nS, .slice (some ⟨gD, 0, none⟩) K.nD K.nD]) := f1; have HA3 : Hid (W3.rangeAt wr.heap.size 0 cs) := range_block F1.out ((HW3.out.1.block _ (by have := HB2.out.size; have := HW1.out.2; omega)).trans (HB2.out.block _ (by have := HW1.out.2; omega))); have v1 : W3.cell? ⟨wr.heap.size, 1, none⟩ = some (.int .i64 s) := HA3.out 1 _ (by rw [Hcs.out]; rfl); have v2 : W3.cell? ⟨wr.heap.size, 2, none⟩ = some (.int .i64 cl) := HA3.out 2 _ (by rw [Hcs.out]; rfl); have v3 : W3.cell? ⟨wr.heap.size, 3, none⟩ = some (.int .i64 a0) := HA3.out 3 _ (by rw [Hcs.out]; rfl); have v4 : W3.cell? ⟨wr.heap.size, 4, none⟩ = some (.int .i64 a1) := HA3.out 4 _ (by rw [Hcs.out]; rfl); have v5 : W3.cell? ⟨wr.heap.size, 5, none⟩ = some (.int .i64 a2) := HA3.out 5 _ (by rw [Hcs.out]; rfl); clear f1 f2 f3 f4)
      have HH3 : Hid (Holds w W3 bk bf bs bd w.heap.size nS K) := (HH1.out.step HB2.out).step HW3.out.1
      refine (call_all HH3.out.rep HH3.out.tab HH3.out.inv.good s cl a0 a1 a2).mono ?_
      rintro e w4 ⟨rfl, R4, q4⟩
      have I4 := inv_call HH3.out.inv s cl a0 a1 a2
      have O4 := own_call HH3.out.own HH3.out.inv.good s cl a0 a1 a2
      have RF := ref_call K s cl a0 a1 a2
      have ST : Hid (∀ q : Nat, q < K.nS → (q : Int) ≠ s → K.S q 0 = 2 → Kept K (kCall K s cl a0 a1 a2).K q) := fun q hq hne hk => kept_of HH3.out.inv.good hq (stays_call HH3.out.own HH3.out.inv.good s cl a0 a1 a2 hq hne hk)
      unfold Ref at RF
      generalize kCall K s cl a0 a1 a2 = r at *
      obtain ⟨K4, nv, ev⟩ := r
      have RF' : Hid (ev ≠ 0 → K4 = K ∧ nv = 0) := RF
      have HZ : Hid (SameSize K K4) := HH3.out.sizes R4 q4
      have HH4 : Hid (Holds w w4 bk bf bs bd w.heap.size nS K4) := HH3.out.call R4 q4 I4 O4
      have HQ4 : Hid (∀ b, b < W3.heap.size → wr.heap.size ≤ b → w4.heap[b]? = W3.heap[b]?) := fun b h1 h2 => q4.block b h1 (by have := HH.out.rep.lf; omega) (by have := HH.out.rep.ls; omega) (by have := HH.out.rep.ld; omega)
      have HQs : Hid (W3.heap.size ≤ w4.heap.size) := q4.size
      clear v1 v2 v3 v4 v5 R4 q4 I4 O4 RF
      go_wp2_with fail
      refine (state_rep HH4.out.rep).mono ?_
      rintro e w5 ⟨kF, kS, kD, rfl, b5, S5, lF, lS, lD⟩
      have hKS : K4.nS = nS := HH4.out.hS
      unfold stVal
      rw [hKS]
      have HL5 : Hid (w4.heap.size ≤ kF ∧ w4.heap.size ≤ kS ∧ w4.heap.size ≤ kD) := ⟨lF, lS, lD⟩
      have HS5 : Hid (Snap w5 kF kS kD K4) := S5
      have HB5 : Hid (Below w4.heap.size w4 w5) := b5
      clear lF lS lD S5 b5 hKS
      go_wp2_with (refine wpList_store_any rfl 45 _ _ rfl _ 0 _ rfl rfl (there_new1 _ _ _ _ (by rfl)) (by kernel_rfl) (by kernel_rfl) ?_; intro W6 f1 f2 f3 f4; have HW6 : Hid (Below w5.heap.size w5 W6 ∧ W6.heap.size = w5.heap.size + 1) := ⟨f4 _ _ ((Below.refl _ _).alloc (Nat.le_refl _) _) (Nat.le_refl _), by rw [f3]; simp⟩; have F6 : Hid (W6.rangeAt w5.heap.size 0 [.slice (some ⟨kF, 0, none⟩) K4.nF K4.nF, .slice (some ⟨kS, 0, none⟩) nS nS, .slice (some ⟨kD, 0, none⟩) K4.nD K4.nD]) := f1; have HO6 : Hid (∀ b, b < W3.heap.size → wr.heap.size ≤ b → W6.heap[b]? = W3.heap[b]?) := fun b h1 h2 => ((HW6.out.1.block b (by have := HB5.out.size; have := HQs.out; omega)).trans (HB5.out.block b (by have := HQs.out; omega))).trans (HQ4.out b h1 h2); have FB : Hid (W6.rangeAt w2.heap.size 0 [.slice (some ⟨gF, 0, none⟩) K.nF K.nF, .slice (some ⟨gS, 0, none⟩) nS nS, .slice (some ⟨gD, 0, none⟩) K.nD K.nD]) := range_block F3.out (HO6.out _ (by have := HW3.out.2; omega) (by have := HW1.out.2; have := HB2.out.size; omega)); have u0 : W6.cell? ⟨w2.heap.size, 0, none⟩ = some (.slice (some ⟨gF, 0, none⟩) K.nF K.nF) := FB.out 0 _ rfl; have u1 : W6.cell? ⟨w2.heap.size, 1, none⟩ = some (.slice (some ⟨gS, 0, none⟩) nS nS) := FB.out 1 _ rfl; have u2 : W6.cell? ⟨w2.heap.size, 2, none⟩ = some (.slice (some ⟨gD, 0, none⟩) K.nD K.nD) := FB.out 2 _ rfl; have t0 : W6.cell? ⟨w5.heap.size, 0, none⟩ = some (.slice (some ⟨kF, 0, none⟩) K4.nF K4.nF) := F6.out 0 _ rfl; have t1 : W6.cell? ⟨w5.heap.size, 1, none⟩ = some (.slice (some ⟨kS, 0, none⟩) nS nS) := F6.out 1 _ rfl; have t2 : W6.cell? ⟨w5.heap.size, 2, none⟩ = some (.slice (some ⟨kD, 0, none⟩) K4.nD K4.nD) := F6.out 2 _ rfl; clear f1 f2 f3 f4)
      have E1 : Hid (K.nS = nS ∧ K4.nS = nS) := ⟨HH1.out.hS, HH4.out.hS⟩
      have SA : Hid (Snap W6 gF gS gD K) := HS2.out.same (fun b hb => by
        have h1 := row_lt HS2.out.f; have h2 := row_lt HS2.out.s; have h3 := row_lt HS2.out.d
        have := HL.out; have := HW1.out.2; have := HW3.out.2
        exact (HO6.out b (by omega) (by omega)).trans (HW3.out.1.block b (by omega)))
      have SB : Hid (Snap W6 kF kS kD K4) := HS5.out.same (fun b hb => by
        have h1 := row_lt HS5.out.f; have h2 := row_lt HS5.out.s; have h3 := row_lt HS5.out.d
        exact HW6.out.1.block b (by omega))
      have CS := sameState_any W6 K K4 HH1.out.rep.hF (by have := HH1.out.rep.hS; omega) (by have := HH1.out.rep.hD; omega) HZ.out.f HZ.out.s HZ.out.d gF gS gD kF kS kD SA.out SB.out
      unfold stVal at CS
      rw [E1.out.1, E1.out.2] at CS
      refine CS.mono ?_
      clear CS
      rintro e w7 ⟨rb, rfl, hrb, b7⟩
      have hc : ev = 0 ∨ (ev ≠ 0 ∧ nv = 0 ∧ rb = true) := by
        by_cases h : ev = 0
        · exact Or.inl h
        · exact Or.inr ⟨h, (RF'.out h).2, hrb (RF'.out h).1⟩
      have HB7 : Hid (Below W6.heap.size W6 w7) := b7
      have HH7 : Hid (Holds w w7 bk bf bs bd w.heap.size nS K4) := ((HH4.out.step HB5.out).step HW6.out.1).step HB7.out
      have hz : Hid (w2.heap.size < W6.heap.size ∧ w5.heap.size < W6.heap.size ∧ wr.heap.size < W6.heap.size) := by
        have := HW1.out.2; have := HB2.out.size; have := HW3.out.2; have := HQs.out; have := HB5.out.size; have := HW6.out.2
        exact ⟨by omega, by omega, by omega⟩
      have s0 := below_cell HB7.out hz.out.1 u0
      have s1 := below_cell HB7.out hz.out.1 u1
      have s2 := below_cell HB7.out hz.out.1 u2
      have r0 := below_cell HB7.out hz.out.2.1 t0
      have r1 := below_cell HB7.out hz.out.2.1 t1
      have r2 := below_cell HB7.out hz.out.2.1 t2
      have V1 : Hid (w7.cell? ⟨wr.heap.size, 1, none⟩ = some (.int .i64 s)) := below_cell HB7.out hz.out.2.2 ((World.cell?_of_block (w := W3) (a := ⟨wr.heap.size, 1, none⟩) (HO6.out wr.heap.size (by have := HW1.out.2; have := HB2.out.size; have := HW3.out.2; omega) (Nat.le_refl _))).trans (HA3.out 1 _ (by rw [Hcs.out]; rfl)))
      have cc := HH7.out.cfg
      have S0 : Hid (w7.cell? ⟨w2.heap.size, 0, none⟩ = some (.slice (some ⟨gF, 0, none⟩) K.nF K.nF)) := s0
      have S1 : Hid (w7.cell? ⟨w2.heap.size, 1, none⟩ = some (.slice (some ⟨gS, 0, none⟩) nS nS)) := s1
      have S2 : Hid (w7.cell? ⟨w2.heap.size, 2, none⟩ = some (.slice (some ⟨gD, 0, none⟩) K.nD K.nD)) := s2
      have R0 : Hid (w7.cell? ⟨w5.heap.size, 0, none⟩ = some (.slice (some ⟨kF, 0, none⟩) K4.nF K4.nF)) := r0
      have R1 : Hid (w7.cell? ⟨w5.heap.size, 1, none⟩ = some (.slice (some ⟨kS, 0, none⟩) nS nS)) := r1
      have R2 : Hid (w7.cell? ⟨w5.heap.size, 2, none⟩ = some (.slice (some ⟨kD, 0, none⟩) K4.nD K4.nD)) := r2
      have SA7 : Hid (Snap w7 gF gS gD K) := SA.out.same (fun b hb => by
        have h1 := row_lt SA.out.f; have h2 := row_lt SA.out.s; have h3 := row_lt SA.out.d
        exact HB7.out.block b (by omega))
      have SB7 : Hid (Snap w7 kF kS kD K4) := SB.out.same (fun b hb => by
        have h1 := row_lt SB.out.f; have h2 := row_lt SB.out.s; have h3 := row_lt SB.out.d
        exact HB7.out.block b (by omega))
      have BN : Hid (K.nF ≤ 32 ∧ K.nS ≤ 6) := ⟨HH1.out.rep.hF, HH1.out.rep.hS⟩
      have hn6 : nS ≤ 6 := N.out.2.2.2.1
      have hz7 : Hid (w2.heap.size < w7.heap.size ∧ w5.heap.size < w7.heap.size ∧ wr.heap.size < w7.heap.size) := by have := hz.out; have := HB7.out.size; exact ⟨by omega, by omega, by omega⟩
      clear u0 u1 u2 t0 t1 t2 b7 hrb hz SA SB FB F6 HO6 HQ4 HQs HB5 HS5 HL5 HS2 HB2 HL HH1 HH3 HH4 HA3 F3 HW3 F1 LA ei ei2 z1 q1 Hcs HW1 HW6 HB7 HH i1 i2 RF' N B0 Q0 Q1 B1 B2 TH Hx Hy Hz s0 s2 r0 r2
      generalize wr.heap.size = A at *
      rcases hc with rfl | ⟨hne, rfl, rfl⟩
      all_goals (try have e0 : (ev != 0) = true := by simpa using hne)
      all_goals (go_wp2; go_loopw [15] (fun i w' => ∃ p : Nat, p ≤ nS ∧ i = .int .i64 p ∧ Below w7.heap.size w7 w') (fun i _ => nS - (intOf i).toNat))
      all_goals (first | (exact ⟨0, by omega, rfl, Below.refl _ _⟩) | skip)
      all_goals
        obtain ⟨p, hp, rfl, hb⟩ := hrel
        have Hb : Hid (Below w7.heap.size w7 wr) := hb
        clear hb s1 r1 cc
        have HH8 : Hid (Holds w wr bk bf bs bd w.heap.size nS K4) := HH7.out.step Hb.out
        have cc := HH8.out.cfg
        by_cases hpn : p < nS
        · have v1 := below_cell Hb.out hz7.out.2.2 V1.out
          have s1 := below_cell Hb.out hz7.out.1 S1.out
          have j1 : (0 : Int) ≤ (p : Int) := by omega
          have j2 : (p : Int) < (nS : Int) := by omega
          by_cases hps : (p : Int) = s
          · subst hps
            go_wp2
            exact ⟨⟨p + 1, by omega, by go_num, Hb.out⟩, by simp [intOf]; omega⟩
          · have SAr : Hid (Snap wr gF gS gD K) := SA7.out.same (fun b hb => by
              have h1 := row_lt SA7.out.f; have h2 := row_lt SA7.out.s; have h3 := row_lt SA7.out.d
              exact Hb.out.block b (by omega))
            have g0 : wr.cell? ⟨gS, p * 20, none⟩ = some (.int .i64 (K.S p 0)) := by
              have := SAr.out.s.cell (i := p * 20 + 0) (by have := E1.out.1; omega)
              rw [sCell_num K p 0 (by omega) (by omega)] at this
              exact this
            have e3 : ((p : Int) == s) = false := by simpa using hps
            by_cases hk2 : K.S p 0 = 2
            · rw [hk2] at g0
              have s0 := below_cell Hb.out hz7.out.1 S0.out
              have s2 := below_cell Hb.out hz7.out.1 S2.out
              have r0 := below_cell Hb.out hz7.out.2.1 R0.out
              have r1 := below_cell Hb.out hz7.out.2.1 R1.out
              have r2 := below_cell Hb.out hz7.out.2.1 R2.out
              have SBr : Hid (Snap wr kF kS kD K4) := SB7.out.same (fun b hb => by
                have h1 := row_lt SB7.out.f; have h2 := row_lt SB7.out.s; have h3 := row_lt SB7.out.d
                exact Hb.out.block b (by omega))
              have HKT : Hid (Kept K K4 p) := ST.out p (by have := E1.out.1; omega) hps hk2
              clear hk2
              go_wp2_with fail
              have CK := kept_any wr K K4 BN.out.1 (by have := BN.out.2; omega) HZ.out.f HZ.out.s gF gS gD kF kS kD SAr.out SBr.out p (by have := E1.out.1; omega) HKT.out
              unfold stVal at CK
              rw [E1.out.1, E1.out.2] at CK
              refine CK.mono ?_
              clear CK
              rintro e w9 ⟨rfl, b9⟩
              have HB9 : Hid (Below w7.heap.size w7 w9) := below_then Hb.out b9 Hb.out.size
              clear b9
              go_wp2
              exact ⟨⟨p + 1, by omega, by go_num, HB9.out⟩, by simp [intOf]; omega⟩
            · have e2 : (K.S p 0 != 2) = true := by simpa using hk2
              clear hk2
              generalize K.S p 0 = kk at *
              go_wp2
              exact ⟨⟨p + 1, by omega, by go_num, Hb.out⟩, by simp [intOf]; omega⟩
        · obtain rfl : p = nS := by omega
          go_wp2
          exact ⟨⟨k + 1, K4, by omega, by go_num, HH8.out⟩, by simp [intOf]; omega⟩
    · obtain rfl : k = n := by omega
      go_wp2
      go_ret
      exact ⟨rfl, HH.out.bel⟩
end Go.Proofs.YtcgabodkegcpgaaDoor
