/- The statement's settings: numbers that may be. -/
import Derived.Test.YtcgabodkegcpgaaDoorStb
namespace Go.Proofs.YtcgabodkegcpgaaDoor
open Go.RowKit
set_option linter.unusedVariables false

def pickI (c : Int) : Int := if c < 0 then -(c + 1) else c
def pickN (c : Int) (n : Nat) : Nat := (pickI c % n).toNat
theorem pickN_lt (c : Int) {n : Nat} (h : 0 < n) : pickN c n < n := by
  have h0 : 0 ≤ pickI c % (n : Int) := Int.emod_nonneg _ (by omega)
  have h1 : pickI c % (n : Int) < n := Int.emod_lt_of_pos _ (by omega)
  unfold pickN; omega
theorem pickN_cast (c : Int) {n : Nat} (h : 0 < n) : ((pickN c n : Nat) : Int) = pickI c % n := by
  have h0 : 0 ≤ pickI c % (n : Int) := Int.emod_nonneg _ (by omega)
  unfold pickN; omega
theorem pick_any (c : Int) (hl : -9223372036854775808 ≤ c) (hh : c < 9223372036854775808) (n : Nat) (h1 : 0 < n) (h2 : n ≤ 31) (w : World) :
    Calls Tryd.prog 33 #[.int .i64 c, .int .i64 n] w fun e w' => e = .returned (.int .i64 (pickN c n : Nat)) ∧ w' = w := by
  have E := pickN_cast c h1
  have L := pickN_lt c h1
  generalize pickN c n = m at *
  have HE : Hid ((m : Int) = pickI c % n) := E
  have HL : Hid (m < n) := L
  by_cases h : c < 0
  · have e1 : IntKind.i64.wrap (c + 1) = c + 1 := IntWalk.i64_in _ (by omega)
    have e2 : IntKind.i64.wrap (-(c + 1)) = -(c + 1) := IntWalk.i64_in _ (by omega)
    have e3 : (-(c + 1)) % (n : Int) = m := by rw [E, pickI, if_pos h]
    have e4 : IntKind.i64.wrap (m : Int) = m := IntWalk.i64_in _ (by omega)
    have e5 : Int.tmod (-(c + 1)) (n : Int) = m := by rw [Int.tmod_eq_emod_of_nonneg (by omega)]; exact e3
    clear E L
    go_enter Tryd.func33, Tryd.ntmps33
    go_wp2
    go_ret
    exact ⟨rfl, rfl⟩
  · have e3 : c % (n : Int) = m := by rw [E, pickI, if_neg h]
    have e4 : IntKind.i64.wrap (m : Int) = m := IntWalk.i64_in _ (by omega)
    have e5 : Int.tmod c (n : Int) = m := by rw [Int.tmod_eq_emod_of_nonneg (by omega)]; exact e3
    clear E L
    go_enter Tryd.func33, Tryd.ntmps33
    go_wp2
    go_ret
    exact ⟨rfl, rfl⟩
end Go.Proofs.YtcgabodkegcpgaaDoor
