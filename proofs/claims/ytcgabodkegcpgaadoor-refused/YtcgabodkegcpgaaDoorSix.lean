/- The kernel's Call at Map, Pipe, Write, Read, Load, Store, at whatever numbers; and what works does: it answers true. -/
import Derived.Test.YtcgabodkegcpgaaDoorDo1
import Derived.Test.YtcgabodkegcpgaaDoorNew3
namespace Go.Proofs.YtcgabodkegcpgaaDoor
open Go.RowKit
set_option linter.unusedVariables false
section
variable {bk bf bs bd : Nat} {K : Ker} {w : World}

theorem fits_is {K : Ker} {t a : Int} (h : fits K t a = true) (ht : t ≠ 0) : ∃ n : Nat, a = n ∧ (n : Int) < howMany K t := by
  unfold fits at h
  simp [ht] at h
  exact ⟨a.toNat, by omega, by omega⟩

def Six (n : Int) : Prop := n = 2 ∨ n = 13 ∨ n = 16 ∨ n = 17 ∨ n = 18 ∨ n = 19

theorem do_six (R : Rep w bk bf bs bd K) (G : Good K) (slot call a b c : Int) (h6 : Six call) (s n : Nat) (h1 : slot = s) (h2 : call = n) (hs : s < K.nS)
    (hf : fits K ((argKinds n).getD 0 0) a = true ∧ fits K ((argKinds n).getD 1 0) b = true ∧ fits K ((argKinds n).getD 2 0) c = true) :
    Calls Tryd.prog 32 #[.pointer (some ⟨bk, 0, none⟩), .int .i64 slot, .int .i64 call, .agg #[.int .i64 a, .int .i64 b, .int .i64 c]] w (Ends bk bf bs bd w (kDo K s n a b c)) := by
  obtain ⟨f0, f1, f2⟩ := hf
  subst h1
  rcases h6 with h | h | h | h | h | h
  · obtain rfl : n = 2 := by omega
    subst h2
    obtain ⟨a', rfl, ha⟩ := fits_is (t := 4) f0 (by decide)
    obtain ⟨b', rfl, hb⟩ := fits_is (t := 1) f1 (by decide)
    exact do_map R c hs (by have h4 : howMany K 4 = 4 := rfl; omega) (by have h4 : howMany K 1 = K.nF := rfl; omega)
  · obtain rfl : n = 13 := by omega
    subst h2
    obtain ⟨a', rfl, ha⟩ := fits_is (t := 3) f0 (by decide)
    obtain ⟨b', rfl, hb⟩ := fits_is (t := 1) f1 (by decide)
    obtain ⟨c', rfl, hc⟩ := fits_is (t := 5) f2 (by decide)
    exact do_pipe R G hs (by have h4 : howMany K 3 = K.nD := rfl; omega) (by have h4 : howMany K 1 = K.nF := rfl; omega) (by have h4 : howMany K 5 = 4 := rfl; omega)
  · obtain rfl : n = 16 := by omega
    subst h2
    obtain ⟨a', rfl, ha⟩ := fits_is (t := 5) f0 (by decide)
    obtain ⟨b', rfl, hb⟩ := fits_is (t := 4) f1 (by decide)
    obtain ⟨c', rfl, hc⟩ := fits_is (t := 6) f2 (by decide)
    exact do_write R G hs (by have h4 : howMany K 5 = 4 := rfl; omega) (by have h4 : howMany K 4 = 4 := rfl; omega) (by have h4 : howMany K 6 = 4 := rfl; omega)
  · obtain rfl : n = 17 := by omega
    subst h2
    obtain ⟨a', rfl, ha⟩ := fits_is (t := 5) f0 (by decide)
    obtain ⟨b', rfl, hb⟩ := fits_is (t := 4) f1 (by decide)
    obtain ⟨c', rfl, hc⟩ := fits_is (t := 6) f2 (by decide)
    exact do_read R G hs (by have h4 : howMany K 5 = 4 := rfl; omega) (by have h4 : howMany K 4 = 4 := rfl; omega) (by have h4 : howMany K 6 = 4 := rfl; omega)
  · obtain rfl : n = 18 := by omega
    subst h2
    obtain ⟨a', rfl, ha⟩ := fits_is (t := 4) f0 (by decide)
    obtain ⟨b', rfl, hb⟩ := fits_is (t := 6) f1 (by decide)
    exact do_load R G c hs (by have h4 : howMany K 4 = 4 := rfl; omega) (by have h4 : howMany K 6 = 4 := rfl; omega)
  · obtain rfl : n = 19 := by omega
    subst h2
    obtain ⟨a', rfl, ha⟩ := fits_is (t := 4) f0 (by decide)
    obtain ⟨b', rfl, hb⟩ := fits_is (t := 6) f1 (by decide)
    exact do_store R G c hs (by have h4 : howMany K 4 = 4 := rfl; omega) (by have h4 : howMany K 6 = 4 := rfl; omega)

theorem call_six (R : Rep w bk bf bs bd K) (T : Tab w) (G : Good K) (slot call a b c : Int) (h6 : Six call) {r : Out} (hr : kCall K slot call a b c = r) :
    Calls Tryd.prog 11 #[.pointer (some ⟨bk, 0, none⟩), .int .i64 slot, .int .i64 call, .agg #[.int .i64 a, .int .i64 b, .int .i64 c]] w (Ends bk bf bs bd w r) := by
  subst hr
  exact call_rep R T slot call a b c (fun s n h1 h2 hs _ hf w1 R1 => do_six R1 G slot call a b c h6 s n h1 h2 hs hf)
end

def wK1 : Ker := (kMap (kNew 4 2 1) 0 1 2).K
def wK2 : Ker := (kStore wK1 0 1 3 9).K
theorem wE1 : kCall (kNew 4 2 1) 0 2 1 2 0 = ⟨wK1, 0, 0⟩ := rfl
theorem wE2 : kCall wK1 0 19 1 3 9 = ⟨wK2, 0, 0⟩ := rfl
theorem wE3 : kCall wK2 0 18 1 3 0 = ⟨wK2, 9, 0⟩ := rfl
theorem wE4 : kCall wK2 0 2 0 2 0 = ⟨wK2, 0, 5⟩ := rfl
theorem wG0 : Good (kNew 4 2 1) := good_new 4 2 1 (by omega)
theorem wG1 : Good wK1 := good_map wG0 (by omega) (by show 2 < 4; omega)
theorem wG2 : Good wK2 := good_store wG1 0 1 3 9

set_option maxHeartbeats 1000000 in
theorem works_any (w : World) (T : Tab w) : Calls Tryd.prog 9 #[] w fun e w' => e = .returned (.bool true) ∧ Below w.heap.size w w' := by
  have HT : Hid (Tab w) := T
  clear T
  go_enter Tryd.func9, Tryd.ntmps9
  go_wp2_with fail
  refine (new_any 4 2 1 (by omega) (by omega) (by omega) (by omega) (by omega) _).mono ?_
  rintro e w1 ⟨bk, bf, bs, bd, rfl, R1, b1, g1, g2, g3, g4⟩
  have p0 := HT.out.lt
  have HT1 : Hid (Tab w1) := HT.out.same (b1.block 0 p0)
  have HR1 : Hid _ := R1
  have Hb1 : Hid _ := b1
  have Hg : Hid (w.heap.size ≤ bf ∧ w.heap.size ≤ bs ∧ w.heap.size ≤ bd ∧ 0 < w.heap.size) := ⟨g2, g3, g4, p0⟩
  clear R1 b1 g1 g2 g3 g4 p0
  go_wp2_with fail
  refine (call_six HR1.out HT1.out wG0 0 2 1 2 0 (by unfold Six; omega) wE1).mono ?_
  rintro e w2 ⟨rfl, R2, k2⟩
  have HT2 : Hid (Tab w2) := HT1.out.keeps k2 (by have := Hg.out; omega) (by have := Hg.out; omega) (by have := Hg.out; omega)
  have HR2 : Hid _ := R2
  have Hk2 : Hid _ := k2
  clear R2 k2
  go_wp2_with fail
  refine (call_six HR2.out HT2.out wG1 0 19 1 3 9 (by unfold Six; omega) wE2).mono ?_
  rintro e w3 ⟨rfl, R3, k3⟩
  have HT3 : Hid (Tab w3) := HT2.out.keeps k3 (by have := Hg.out; omega) (by have := Hg.out; omega) (by have := Hg.out; omega)
  have HR3 : Hid _ := R3
  have Hk3 : Hid _ := k3
  clear R3 k3
  go_wp2_with fail
  refine (call_six HR3.out HT3.out wG2 0 18 1 3 0 (by unfold Six; omega) wE3).mono ?_
  rintro e w4 ⟨rfl, R4, k4⟩
  have HT4 : Hid (Tab w4) := HT3.out.keeps k4 (by have := Hg.out; omega) (by have := Hg.out; omega) (by have := Hg.out; omega)
  have HR4 : Hid _ := R4
  have Hk4 : Hid _ := k4
  clear R4 k4
  go_wp2_with fail
  refine (call_six HR4.out HT4.out wG2 0 2 0 2 0 (by unfold Six; omega) wE4).mono ?_
  rintro e w5 ⟨rfl, R5, k5⟩
  have HT5 : Hid (Tab w5) := HT4.out.keeps k5 (by have := Hg.out; omega) (by have := Hg.out; omega) (by have := Hg.out; omega)
  have HR5 : Hid _ := R5
  have Hk5 : Hid _ := k5
  clear R5 k5
  go_wp2
  go_ret
  have g := Hg.out
  have z1 := Hb1.out.size
  exact ⟨rfl, Hb1.out.trans ((((Hk2.out.trans Hk3.out).trans Hk4.out).trans Hk5.out).below z1 g.1 g.2.1 g.2.2.1)⟩
end Go.Proofs.YtcgabodkegcpgaaDoor
