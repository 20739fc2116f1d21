/- The kernel's looks at numbers: isOne, howMany. -/
import Derived.Test.YtcgabodkegcpgaaDoorLeaf
namespace Go.Proofs.YtcgabodkegcpgaaDoor
open Go.RowKit
set_option linter.unusedVariables false
section
variable {bk bf bs bd : Nat} {K : Ker} {w : World}

def oneB (n m : Int) : Bool := decide (0 ≤ n) && decide (n < m)
theorem isOne_any (n m : Int) (w : World) :
    Calls Tryd.prog 30 #[.int .i64 n, .int .i64 m] w fun e w' => e = .returned (.bool (oneB n m)) ∧ w' = w := by
  by_cases h1 : 0 ≤ n
  · by_cases h2 : n < m
    · have E : Hid (oneB n m = true) := by unfold oneB Hid; simp [h1, h2]
      go_enter Tryd.func30, Tryd.ntmps30
      go_wp2
      go_ret
      rw [E.out]
      exact ⟨rfl, rfl⟩
    · have E : Hid (oneB n m = false) := by unfold oneB Hid; simp; omega
      go_enter Tryd.func30, Tryd.ntmps30
      go_wp2
      go_ret
      rw [E.out]
      exact ⟨rfl, rfl⟩
  · have E : Hid (oneB n m = false) := by unfold oneB Hid; simp; omega
    go_enter Tryd.func30, Tryd.ntmps30
    go_wp2
    go_ret
    rw [E.out]
    exact ⟨rfl, rfl⟩

theorem howMany_rep (R : Rep w bk bf bs bd K) (t : Int) (h0 : 0 ≤ t) (h6 : t ≤ 6) :
    Calls Tryd.prog 31 #[.pointer (some ⟨bk, 0, none⟩), .int .i64 t] w fun e w' => e = .returned (.int .i64 (howMany K t)) ∧ w' = w := by
  have k0 := R.k0; have k1 := R.k1; have k2 := R.k2
  clear R
  obtain rfl | rfl | rfl | rfl | rfl | rfl | rfl : t = 0 ∨ t = 1 ∨ t = 2 ∨ t = 3 ∨ t = 4 ∨ t = 5 ∨ t = 6 := by omega
  all_goals
    go_enter Tryd.func31, Tryd.ntmps31
    go_wp2
    go_ret
    exact ⟨rfl, rfl⟩
end
end Go.Proofs.YtcgabodkegcpgaaDoor
