/- The kernel's Call at Map, Pipe, Write, Read, Load, Store, at whatever numbers; and what works does: it answers true. -/
import Derived.Test.YtcgabodkegcpgaaGreatDoorDo1
import Derived.Test.YtcgabodkegcpgaaGreatDoorNew1
namespace Go.Proofs.YtcgabodkegcpgaaGreatDoor
open Go.RowKit
set_option linter.unusedVariables false
section
variable {bk bf bs bd : Nat} {K : Ker} {w : World}

theorem fits_is {K : Ker} {t a : Int} (h : fits K t a = true) (ht : t ≠ 0) : ∃ n : Nat, a = n ∧ (n : Int) < howMany K t := by
  unfold fits at h
  simp [ht] at h
  exact ⟨a.toNat, by omega, by omega⟩

def Six (n : Int) : Prop := n = 2 ∨ n = 13 ∨ n = 16 ∨ n = 17 ∨ n = 18 ∨ n = 19

theorem do_six (R : Rep w bk bf bs bd K) (G : Good K) (slot call a b c : Int) (h6 : Six call) (s n : Nat) (h1 : slot = s) (h2 : call = n) (hs : s < K.nS)
    (hf : fits K ((argKinds n).getD 0 0) a = true ∧ fits K ((argKinds n).getD 1 0) b = true ∧ fits K ((argKinds n).getD 2 0) c = true) :
    Calls Tryz.prog 36 #[.pointer (some ⟨bk, 0, none⟩), .int .i64 slot, .int .i64 call, .agg #[.int .i64 a, .int .i64 b, .int .i64 c]] w (Ends bk bf bs bd w (kDo K s n a b c)) := by
  obtain ⟨f0, f1, f2⟩ := hf
  subst h1
  rcases h6 with h | h | h | h | h | h
  · obtain rfl : n = 2 := by omega
    subst h2
    obtain ⟨a', rfl, ha⟩ := fits_is (t := 4) f0 (by decide)
    obtain ⟨b', rfl, hb⟩ := fits_is (t := 1) f1 (by decide)
    exact do_map R c hs (by have h4 : howMany K 4 = 4 := rfl; omega) (by have h4 : howMany K 1 = K.nF := rfl; omega)
  · obtain rfl : n = 13 := by omega
    subst h2
    obtain ⟨a', rfl, ha⟩ := fits_is (t := 3) f0 (by decide)
    obtain ⟨b', rfl, hb⟩ := fits_is (t := 1) f1 (by decide)
    obtain ⟨c', rfl, hc⟩ := fits_is (t := 5) f2 (by decide)
    exact do_pipe R G hs (by have h4 : howMany K 3 = K.nD := rfl; omega) (by have h4 : howMany K 1 = K.nF := rfl; omega) (by have h4 : howMany K 5 = 4 := rfl; omega)
  · obtain rfl : n = 16 := by omega
    subst h2
    obtain ⟨a', rfl, ha⟩ := fits_is (t := 5) f0 (by decide)
    obtain ⟨b', rfl, hb⟩ := fits_is (t := 4) f1 (by decide)
    obtain ⟨c', rfl, hc⟩ := fits_is (t := 6) f2 (by decide)
    exact do_write R G hs (by have h4 : howMany K 5 = 4 := rfl; omega) (by have h4 : howMany K 4 = 4 := rfl; omega) (by have h4 : howMany K 6 = 4 := rfl; omega)
  · obtain rfl : n = 17 := by omega
    subst h2
    obtain ⟨a', rfl, ha⟩ := fits_is (t := 5) f0 (by decide)
    obtain ⟨b', rfl, hb⟩ := fits_is (t := 4) f1 (by decide)
    obtain ⟨c', rfl, hc⟩ := fits_is (t := 6) f2 (by decide)
    exact do_read R G hs (by have h4 : howMany K 5 = 4 := rfl; omega) (by have h4 : howMany K 4 = 4 := rfl; omega) (by have h4 : howMany K 6 = 4 := rfl; omega)
  · obtain rfl : n = 18 := by omega
    subst h2
    obtain ⟨a', rfl, ha⟩ := fits_is (t := 4) f0 (by decide)
    obtain ⟨b', rfl, hb⟩ := fits_is (t := 6) f1 (by decide)
    exact do_load R G c hs (by have h4 : howMany K 4 = 4 := rfl; omega) (by have h4 : howMany K 6 = 4 := rfl; omega)
  · obtain rfl : n = 19 := by omega
    subst h2
    obtain ⟨a', rfl, ha⟩ := fits_is (t := 4) f0 (by decide)
    obtain ⟨b', rfl, hb⟩ := fits_is (t := 6) f1 (by decide)
    exact do_store R G c hs (by have h4 : howMany K 4 = 4 := rfl; omega) (by have h4 : howMany K 6 = 4 := rfl; omega)

theorem call_six (R : Rep w bk bf bs bd K) (T : Tab w) (G : Good K) (slot call a b c : Int) (h6 : Six call) {r : Out} (hr : kCall K slot call a b c = r) :
    Calls Tryz.prog 16 #[.pointer (some ⟨bk, 0, none⟩), .int .i64 slot, .int .i64 call, .agg #[.int .i64 a, .int .i64 b, .int .i64 c]] w (Ends bk bf bs bd w r) := by
  subst hr
  exact call_rep R T slot call a b c (fun s n h1 h2 hs _ hf w1 R1 => do_six R1 G slot call a b c h6 s n h1 h2 hs hf)
end
end Go.Proofs.YtcgabodkegcpgaaGreatDoor
