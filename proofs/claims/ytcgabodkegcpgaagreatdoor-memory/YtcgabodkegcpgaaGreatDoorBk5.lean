/- Each list that is handed out is marked and put into the book, with three that append made of it. -/
import Derived.Test.YtcgabodkegcpgaaGreatDoorBk3
namespace Go.Proofs.YtcgabodkegcpgaaGreatDoor
open Go.RowKit
set_option linter.unusedVariables false
set_option linter.unusedSimpArgs false
attribute [local go_sem ↓] Go.wp_at_zero Go.wp_at_succ


set_option maxRecDepth 100000 in
set_option maxHeartbeats 10000000 in
theorem ownDucts_any {w : World} {bb H : Nat} {V : Nat → Value} {N : Nat → Nat} {X : Nat → List Value} {A : Nat → Option (Nat × Nat × Nat)} (B : BookOk w bb H V N X A) {g n : Nat} {f : Nat → Value} (hn : n ≤ 32) (hN : N 2 ≤ 7036874417564) (hg : H ≤ g) (hA : A g = none) (hV : ∀ d, d < 4 → (V d).ownBlock ≠ some g) (hrow : w.rowIs g 87 (n * 5) f) :
    Calls Tryz.prog 87 #[.pointer (some ⟨bb, 0, none⟩), .slice (some ⟨g, 0, none⟩) n n] w fun e w' => e = .returned (.tuple #[]) ∧ ∃ V' N' X' A', BookOk w' bb H V' N' X' A' ∧ Owned w w' bb 2 g V V' N N' A A' := by
  obtain ⟨a0, cp0, hv0⟩ := own_slice (B.lists.own 2 (by show 2 < 4; omega))
  have c0 : w.cell? ⟨bb, 2, none⟩ = some (.slice a0 (N 2) cp0) := by rw [← hv0]; exact B.lists.cell (by show 2 < 4; omega)
  have HB : Hid (BookOk w bb H V N X A) := B
  have HG : Hid (H ≤ g ∧ A g = none ∧ ∀ d, d < 4 → (V d).ownBlock ≠ some g) := ⟨hg, hA, hV⟩
  have hgl : Hid (g < w.heap.size) := hrow.lt
  have HR : Hid (w.rowIs g 87 (n * 5) f) := hrow
  obtain ⟨k, ek⟩ : ∃ k, N 2 = k := ⟨_, rfl⟩
  have EK : Hid (N 2 = k) := ek
  have HV : Hid (V 2 = .slice a0 k cp0) := by unfold Hid; rw [← ek]; exact hv0
  rw [ek] at c0 hN
  obtain ⟨ms, ems⟩ : ∃ ms, ms = mrk 2 k := ⟨_, rfl⟩
  have HMS : Hid (ms = mrk 2 k) := ems
  have ez : Hid (ms.length = 5) := by unfold Hid; rw [ems]; exact mk_len 2 k
  have z1 : Hid (ms.toArray.size = 5) := by unfold Hid; rw [List.size_toArray]; exact ez.out
  have ei : Hid ((Tryz.prog.info? 87).map (·.size) = some ms.length) := by unfold Hid; rw [ez.out]; kernel_rfl
  have ei2 : Hid ((Tryz.prog.info? 87).map (·.size) = some ms.toArray.size) := by unfold Hid; rw [z1.out]; kernel_rfl
  have q0 : Hid (∀ u ∈ ms, u.oneCell' = true) := by unfold Hid; rw [ems]; exact mk_one 2 k
  have q1 : Hid (ms.toArray.all (·.oneCell') = true) := all_oneCell_toArray q0.out
  have AG : Hid (Value.agg (lit2 k).toArray = .agg ms.toArray) := by unfold Hid; rw [ems, mrk2]
  obtain ⟨iS, zS, bS, _, u2, u3, u4, u5, u6, u7⟩ := stInfo 2 (by omega)
  have HI : Hid (Tryz.prog.info? 87 = some iS ∧ iS.zero = some zS ∧ iS.size = 5 ∧ zS.cells.size = 5 ∧ iS.bytes = bS ∧ bS ≤ 1000) := ⟨u2, u3, u4, u6, u5, u7⟩
  clear B hg hA hV hrow hv0 ek ems u2 u3 u4 u5 u6 u7
  go_enter Tryz.func87, Tryz.ntmps87
  go_wp2_with (first | (refine wpList_store_world rfl 87 _ _ rfl w.heap.size 0 ms.toArray rfl (Eq.trans rfl AG.out) (by rw [z1.out]; exact there_newm _ _ _ _ (by rfl)) ei2.out q1.out ?_; intro W1 eW1; have F1 : Hid (Mid w W1 2 g n k 0 f) := (by unfold Hid; rw [eW1]; exact mid_start ez.out (by rfl) HMS.out HR.out); clear eW1))
  go_loopw [6] (fun i w' => ∃ (m : Nat) (h : Nat → Value), m ≤ n ∧ i = .int .i64 m ∧ Mid w w' 2 g n k m h) (fun i _ => n - (intOf i).toNat)
  case atStart => exact ⟨0, f, by omega, rfl, F1.out⟩
  case round =>
    obtain ⟨m, h, hm, rfl, m1⟩ := hrel
    have HM : Hid (Mid w wr 2 g n k m h) := m1
    clear m1 F1
    by_cases hlt : m < n
    · have j1 : (0 : Int) ≤ (m : Int) := by omega
      have j2 : (m : Int) < (n : Int) := by omega
      have LM : Hid (wr.rangeAt w.heap.size 0 ms) := mark_range HM.out.mb HMS.out
      have TH : Hid (wr.there g (m * 5) 5) := rowIs_there HM.out.row (o := m * 5) (m := 5) (show m * 5 + 5 ≤ n * 5 by omega)
      go_wp2_with (first | (refine wpList_load_mid rfl 87 _ rfl w.heap.size 0 rfl ms _ LM.out Tryz.underlying87 rfl ei.out ?_) | (refine wpList_store_world rfl 87 _ _ rfl g (m * 5) ms.toArray rfl rfl (by rw [z1.out]; exact TH.out) ei2.out q1.out ?_; intro W2 eW2; have HM2 : Hid (∃ h', Mid w W2 2 g n k (m + 1) h') := (by unfold Hid; rw [eW2]; exact mid_step' HMS.out (show m * 5 = m * stZ 2 from rfl) HM.out hlt hgl.out); clear eW2))
      obtain ⟨h', M'⟩ := HM2.out
      exact ⟨⟨m + 1, h', by omega, by go_num, M'⟩, by simp [intOf]; omega⟩
    · obtain rfl : m = n := by omega
      have FA : Hid (Aft w wr bb H 2 g k m k g m V V N N X A (up A g (some (2, k, m)))) := aft_start HB.out (by omega) hn HG.out.1 hgl.out HG.out.2.1 HG.out.2.2 EK.out HM.out
      have b0 : wr.cell? ⟨bb, 2, none⟩ = some (.slice a0 k cp0) := by rw [← HV.out]; exact FA.out.cell (by omega)
      have b1 : ∀ o, (wr.alloc o).cell? ⟨bb, 2, none⟩ = some (.slice a0 k cp0) := fun o => by rw [← HV.out]; exact (FA.out.alloc o).cell (by omega)
      clear HM hlt c0
      go_wp2_with (refine book_app (c := 2) (FA.out.book.alloc _) (by omega) (by rw [EK.out]; omega) (some ⟨g, 0, none⟩) m m k (by omega) (by rw [EK.out]; exact Nat.le_refl _) (fun _ => ⟨g, m, rfl, FA.out.held, Nat.le_refl _⟩) ⟨wr.heap.size, 0, none⟩ 1 (fun j u hu => laid_news j u hu) rfl _ _ rfl ((show _ = Value.slice a0 k cp0 from rfl).trans HV.out.symm) rfl ?_; intro g2 cap2 w2 hb2 c2 z2; have HB2 : Hid (∃ V' N' X', BookOk (w2.setCell ⟨bb, 2, none⟩ (.slice (some ⟨g2, 0, none⟩) (N 2 + 1) cap2)) bb H V' N' X' (up A g (some (2, k, m))) ∧ Pushed _ (w2.setCell ⟨bb, 2, none⟩ (.slice (some ⟨g2, 0, none⟩) (N 2 + 1) cap2)) bb 2 V V' N N') := hb2; clear hb2; have cc2 : w2.cell? ⟨bb, 2, none⟩ = some (.slice a0 k cp0) := c2.trans (by rw [HV.out]))
      have FB : Hid (∃ V2 N2 X2, Aft w (w2.setCell ⟨bb, 2, none⟩ (.slice (some ⟨g2, 0, none⟩) (N 2 + 1) cap2)) bb H 2 g k m (k + 1) g m V V2 N N2 X2 A (up A g (some (2, k, m)))) := by
        obtain ⟨V2, N2, X2, bk2, pu2⟩ := HB2.out
        exact ⟨V2, N2, X2, FA.out.push (by omega) ((Chg.refl _).alloc _) bk2 pu2⟩
      clear HB2 FA b0 b1
      go_loopw [1, 7] (fun l i w' => ∃ (q g' cap : Nat) (V' : Nat → Value) (N' : Nat → Nat) (X' : Nat → List Value) (A' : Nat → Option (Nat × Nat × Nat)), q ≤ 3 ∧ i = .int .i64 q ∧ l = .slice (some ⟨g', 0, none⟩) (m + q) cap ∧ Aft w w' bb H 2 g k (m + q) (k + 1 + q) g' cap V V' N N' X' A A') (fun l i _ => 3 - (intOf i).toNat)
      case atStart =>
        obtain ⟨V2, N2, X2, F2⟩ := FB.out
        exact ⟨0, g, m, V2, N2, X2, _, by omega, rfl, rfl, F2⟩
      case round =>
        obtain ⟨q, g', cap, V', N', X', A', hq, rfl, rfl, f1⟩ := hrel
        have HF : Hid (Aft w wr bb H 2 g k (m + q) (k + 1 + q) g' cap V V' N N' X' A A') := f1
        clear f1 FB
        by_cases hq3 : q < 3
        · have LM : Hid (wr.rangeAt w.heap.size 0 ms) := mark_range HF.out.mb HMS.out
          go_wp2_with (first | (refine wpList_load_mid rfl 87 _ rfl w.heap.size 0 rfl ms _ LM.out Tryz.underlying87 rfl ei.out ?_) | (refine wpList_buildSlice_one rfl _ 83 87 rfl iS zS ms 5 rfl Tryz.underlying83 HI.out.1 HI.out.2.1 HI.out.2.2.1 ez.out HI.out.2.2.2.1 (by omega) (by omega) ?_) | (refine wpList_append_two rfl _ _ 83 rfl H 87 iS zS 5 bS Tryz.underlying83 HI.out.1 HI.out.2.1 HI.out.2.2.1 HI.out.2.2.2.2.1 HI.out.2.2.2.1 (by omega) g' (m + q) cap (mks 2 k (m + q)) rfl (HF.out.own.alloc _) ⟨wr.heap.size, 0, none⟩ 1 ms rfl ez.out (fun j u hu => laid_news j u hu) q0.out (by simp [maxLen]; omega) (Nat.le_trans (Nat.mul_le_mul (show m + q + 1 ≤ 40 by omega) HI.out.2.2.2.2.2) (by omega)) (by have := HF.out.book.hH; simp; omega) ?_; intro g2 cap2 w2 o2 gr2 li2 lt2; have HF2 : Hid (Aft w w2 bb H 2 g k (m + q + 1) (k + 1 + q) g2 cap2 V V' N N' X' A (up A' g2 (some (2, k, m + q + 1)))) := HF.out.grow (by omega) (by omega) ((Chg.refl _).alloc _) (by rw [← HMS.out]; exact o2) gr2 li2 lt2; clear o2 gr2 li2 lt2; have d0 : w2.cell? ⟨bb, 2, none⟩ = some (V' 2) := HF2.out.cell (by omega); have d1 : ∀ o, (w2.alloc o).cell? ⟨bb, 2, none⟩ = some (V' 2) := fun o => (HF2.out.alloc o).cell (by omega)) | (refine book_app (c := 2) (HF2.out.book.alloc _) (by omega) (by rw [HF2.out.nc]; omega) (some ⟨g2, 0, none⟩) (m + q + 1) cap2 k (by omega) (by rw [HF2.out.nc]; omega) (fun _ => ⟨g2, m + q + 1, rfl, HF2.out.held, Nat.le_refl _⟩) ⟨w2.heap.size, 0, none⟩ 1 (fun j u hu => laid_news j u hu) rfl _ _ rfl rfl rfl ?_; intro g3 cap3 w3 hb3 c3 z3; have HB3 : Hid (∃ V3 N3 X3, BookOk (w3.setCell ⟨bb, 2, none⟩ (.slice (some ⟨g3, 0, none⟩) (N' 2 + 1) cap3)) bb H V3 N3 X3 (up A' g2 (some (2, k, m + q + 1))) ∧ Pushed _ (w3.setCell ⟨bb, 2, none⟩ (.slice (some ⟨g3, 0, none⟩) (N' 2 + 1) cap3)) bb 2 V' V3 N' N3) := hb3; clear hb3))
          obtain ⟨V3, N3, X3, bk3, pu3⟩ := HB3.out
          exact ⟨⟨q + 1, g2, cap2, V3, N3, X3, _, by omega, by go_num, rfl, HF2.out.push (by omega) ((Chg.refl _).alloc _) bk3 pu3⟩, by simp [intOf]; omega⟩
        · obtain rfl : q = 3 := by omega
          go_wp2
          go_end0
          exact ⟨rfl, V', N', X', A', HF.out.book, ⟨HF.out.chg, by rw [HF.out.nc, EK.out], HF.out.nd, HF.out.un⟩⟩
end Go.Proofs.YtcgabodkegcpgaaGreatDoor
