/- What the kernel's closeFile does, and the calls Close and Shut (each for every kernel whose numbers are ones). -/
import Derived.Test.YtcgabodkegcpgaaGreatDoorPrc2
import Derived.Deep.RegionHeld3
import Derived.Deep.DrawnRows
namespace Go.Proofs.YtcgabodkegcpgaaGreatDoor
open Go.RowKit
set_option linter.unusedVariables false
attribute [local go_sem ↓] Go.wp_at_zero Go.wp_at_succ

section
variable {bk bf bs bd : Nat} {K : Ker} {w : World}

def Ker.shutOff (K : Ker) (s x d : Nat) (b : Bool) : Ker := (K.setFile s x (-1) false).count d b (-1)
theorem closeFile_is (K : Ker) (s x d : Nat) (hd : K.file s x = d) :
    K.closeFile s x = if (K.shutOff s x d (K.end s x)).D d 3 = 0 ∧ (K.shutOff s x d (K.end s x)).D d 4 = 0 then ((K.shutOff s x d (K.end s x)).become ((K.shutOff s x d (K.end s x)).D d 0).toNat 0 (-1)).noDuct d (-1) else K.shutOff s x d (K.end s x) := by
  unfold Ker.closeFile
  rw [hd, Int.toNat_natCast]
  rfl
theorem shutOff_sizes (K : Ker) (s x d : Nat) (b : Bool) : (K.shutOff s x d b).nF = K.nF ∧ (K.shutOff s x d b).nS = K.nS ∧ (K.shutOff s x d b).nD = K.nD := by
  cases b <;> exact ⟨rfl, rfl, rfl⟩
theorem shutOff_frame (K : Ker) (s x d : Nat) (b : Bool) : (K.shutOff s x d b).D d 0 = K.D d 0 := by
  cases b <;> simp [Ker.shutOff, Ker.count, Ker.setFile, Ker.setS, Ker.setB, Ker.setD, upd]

set_option maxHeartbeats 2000000 in
theorem closeFile_rep (R : Rep w bk bf bs bd K) {s x d h : Nat} (hs : s < K.nS) (hx : x < 4) (hd : K.file s x = d) (hdn : d < K.nD) (h3 : 0 ≤ K.D d 3 ∧ K.D d 3 ≤ 24) (h4 : 0 ≤ K.D d 4 ∧ K.D d 4 ≤ 24) (hh : K.D d 0 = h) (hhl : h < K.nF) :
    Calls Tryz.prog 105 #[.pointer (some ⟨bk, 0, none⟩), .int .i64 s, .int .i64 x] w fun e w' => e = .returned (.tuple #[]) ∧ Rep w' bk bf bs bd (K.closeFile s x) ∧ Keeps bf bs bd w w' := by
  have E := closeFile_is K s x d hd
  have z1 := shutOff_sizes K s x d (K.end s x)
  have z2 := shutOff_frame K s x d (K.end s x)
  have HR : Hid (Rep w bk bf bs bd K) := R
  have hn := R.hS; have hm := R.hD; have hf := R.hF
  have k1 := R.k1
  have k1' := fun o => (HR.out.alloc o).k1
  have c1 : w.cell? ⟨bs, s * 20 + 11 + x * 2, none⟩ = some (.int .i64 d) := by rw [HR.out.ff hs hx]; exact congrArg (fun q => some (Value.int .i64 q)) hd
  have c2 : w.cell? ⟨bs, s * 20 + 11 + x * 2 + 1, none⟩ = some (.bool (K.end s x)) := HR.out.fe hs hx
  have c1' : ∀ o, (w.alloc o).cell? ⟨bs, s * 20 + 11 + x * 2, none⟩ = some (.int .i64 d) := fun o => by rw [(HR.out.alloc o).ff hs hx]; exact congrArg (fun q => some (Value.int .i64 q)) hd
  have c2' : ∀ o, (w.alloc o).cell? ⟨bs, s * 20 + 11 + x * 2 + 1, none⟩ = some (.bool (K.end s x)) := fun o => (HR.out.alloc o).fe hs hx
  have zz := fun o => (HR.out.alloc o).zs
  have n1 : bs ≠ w.heap.size := Nat.ne_of_lt R.ls
  have n2 : w.heap.size ≠ bs := fun e => n1 e.symm
  have n3 : w.heap.size ≠ bf := fun e => Nat.ne_of_lt R.lf e.symm
  have n4 : w.heap.size ≠ bd := fun e => Nat.ne_of_lt R.ld e.symm
  have n5 : bk ≠ w.heap.size := Nat.ne_of_lt R.lk
  have H3 : Hid _ := h3
  have H4 : Hid _ := h4
  have Hn : Hid (w.heap.size ≠ bf ∧ w.heap.size ≠ bs ∧ w.heap.size ≠ bd) := ⟨n3, n2, n4⟩
  clear R h3 h4 hd
  generalize hb : K.end s x = b at *
  clear hb
  have HE : Hid _ := E
  have Hz1 : Hid _ := z1
  have Hz2 : Hid (_ = (h : Int)) := z2.trans hh
  clear E z1 z2 hh
  go_enter Tryz.func105, Tryz.ntmps105
  go_wp2_with fail
  refine (countEnd_rep (K := K.setFile s x (-1) false) (((HR.out.alloc _).setS (c := 11 + x * 2) hs (by omega) (not_isBf x) (by omega) _).setB (c := 12 + x * 2) hs (isBf x hx) (by omega) _) b (-1) hdn (by omega) H3.out H4.out).mono ?_
  rintro e w2 ⟨rfl, R2, q2⟩
  have HR2 : Hid (Rep w2 bk bf bs bd (K.shutOff s x d b)) := R2
  have b0 : w2.cell? ⟨w.heap.size, 0, none⟩ = some (.int .i64 d) := by
    rw [q2.cell (by simp) Hn.out.1 Hn.out.2.1 Hn.out.2.2, cell_set_other _ _ (Or.inl Hn.out.2.1), cell_set_other _ _ (Or.inl Hn.out.2.1)]
    exact cell_of_row _ _ 0 _ _ _ (heap_alloc_new w _)
  have Hq2 : Hid (Keeps bf bs bd w w2) := ((((Keeps.refl w).alloc _).setS _ _).setS _ _).trans q2
  have lb : w.heap.size < w2.heap.size := by have := q2.size; simp at this; omega
  clear R2 q2 c1 c2 c1' c2' zz k1 k1'
  obtain ⟨y1, y2, y3⟩ := Hz1.out
  have dn1 : d < (K.shutOff s x d b).nD := by rw [y3]; exact hdn
  have hF1 : h < (K.shutOff s x d b).nF := by rw [y1]; exact hhl
  have D0 : (K.shutOff s x d b).D d 0 = h := Hz2.out
  have HD0 : Hid _ := D0
  clear y1 y2 y3 D0 Hz1 Hz2
  generalize hK1 : K.shutOff s x d b = K1 at *
  clear hK1 H3 H4
  have r2 := HR2.out.k2
  have d0 : w2.cell? ⟨bd, d * 5, none⟩ = some (.int .i64 h) := by rw [HR2.out.d0 dn1, HD0.out]
  have d1 := HR2.out.d1 dn1
  have d2 := HR2.out.d2 dn1
  have d3 := HR2.out.d3 dn1
  have d4 := HR2.out.d4 dn1
  have m1 := HR2.out.hD
  have lk : w2.heap.size ≠ bk := fun e => Nat.ne_of_lt HR2.out.lk e.symm
  have ld : w2.heap.size ≠ bd := fun e => Nat.ne_of_lt HR2.out.ld e.symm
  have lw : w2.heap.size ≠ w.heap.size := by omega
  go_wp2_with fail
  go_region_held3 (fun w' => w'.cell? ⟨bk, 2, none⟩ = some (.slice (some ⟨bd, 0, none⟩) K1.nD K1.nD) ∧ w'.cell? ⟨w.heap.size, 0, none⟩ = some (.int .i64 d) ∧ w'.cell? ⟨bd, d * 5, none⟩ = some (.int .i64 h) ∧ w'.cell? ⟨bd, d * 5 + 1, none⟩ = some (.int .i64 (K1.D d 1)) ∧ w'.cell? ⟨bd, d * 5 + 2, none⟩ = some (.int .i64 (K1.D d 2)) ∧ w'.cell? ⟨bd, d * 5 + 3, none⟩ = some (.int .i64 (K1.D d 3)) ∧ w'.cell? ⟨bd, d * 5 + 4, none⟩ = some (.int .i64 (K1.D d 4))) (go_keep) (fail)
  by_cases a3 : K1.D d 3 = 0
  · have e3 : (K1.D d 3 == 0) = true := by simpa using a3
    by_cases a4 : K1.D d 4 = 0
    · have e4 : (K1.D d 4 == 0) = true := by simpa using a4
      have HE2 : Hid (K.closeFile s x = (K1.become h 0 (-1)).noDuct d (-1)) := by unfold Hid; rw [HE.out, if_pos ⟨a3, a4⟩, HD0.out, Int.toNat_natCast]
      clear a3 a4 HE
      go_wp2_with fail
      refine (become_rep ((HR2.out.alloc _).drew) 0 (-1) hF1).mono ?_
      rintro e w3 ⟨rfl, R3, q3⟩
      have b3 : w3.cell? ⟨w.heap.size, 0, none⟩ = some (.int .i64 d) := by
        rw [q3.cell (by show w.heap.size < (w2.alloc _).heap.size; simp; omega) Hn.out.1 Hn.out.2.1 Hn.out.2.2]
        rw [show ∀ o : Obj, (w2.alloc o).drew.cell? ⟨w.heap.size, 0, none⟩ = w2.cell? ⟨w.heap.size, 0, none⟩ from fun o => World.cell?_of_block (w := w2) (a := ⟨w.heap.size, 0, none⟩) (Below.heap_alloc w2 o _ lb)]
        exact b0
      have Hq3 : Hid (Keeps bf bs bd w w3) := ((Hq2.out.alloc _).drew).trans q3
      have HR3 : Hid (Rep w3 bk bf bs bd (K1.become h 0 (-1))) := R3
      have dn2 : d < (K1.become h 0 (-1)).nD := dn1
      clear R3 q3 d0 d1 d2 d3 d4 r2 b0
      generalize K1.become h 0 (-1) = K2 at *
      have r2 := HR3.out.k2
      have d0 := HR3.out.d0 dn2
      have d1 := HR3.out.d1 dn2
      have d2 := HR3.out.d2 dn2
      have d3 := HR3.out.d3 dn2
      have d4 := HR3.out.d4 dn2
      have zd := HR3.out.zd
      have m2 := HR3.out.hD
      have kd := HR3.out.kd
      have dk : bd ≠ bk := fun e => kd e.symm
      have wd : bd ≠ w.heap.size := fun e => Hn.out.2.2 e.symm
      go_wp2_with fail
      go_region_held3 (fun w' => w'.cell? ⟨bk, 2, none⟩ = some (.slice (some ⟨bd, 0, none⟩) K2.nD K2.nD) ∧ w'.cell? ⟨w.heap.size, 0, none⟩ = some (.int .i64 d)) (go_keep) (fail)
      go_wp2
      go_end0
      refine ⟨rfl, ?_, ((((((Hq3.out.setD _ _).setD _ _).setD _ _).setD _ _).setD _ _).drew)⟩
      rw [HE2.out]
      exact (HR3.out.noDuct dn2 (-1)).drew
    · have e4 : (K1.D d 4 == 0) = false := by simpa using a4
      have HE2 : Hid (K.closeFile s x = K1) := by unfold Hid; rw [HE.out, if_neg (fun h => a4 h.2)]
      clear a3 a4 HE
      go_wp2
      go_end0
      refine ⟨rfl, ?_, (Hq2.out.alloc _).drew⟩
      rw [HE2.out]
      exact (HR2.out.alloc _).drew
  · have e3 : (K1.D d 3 == 0) = false := by simpa using a3
    have HE2 : Hid (K.closeFile s x = K1) := by unfold Hid; rw [HE.out, if_neg (fun h => a3 h.1)]
    clear a3 HE
    go_wp2
    go_end0
    refine ⟨rfl, ?_, (Hq2.out.alloc _).drew⟩
    rw [HE2.out]
    exact (HR2.out.alloc _).drew
end
end Go.Proofs.YtcgabodkegcpgaaGreatDoor
