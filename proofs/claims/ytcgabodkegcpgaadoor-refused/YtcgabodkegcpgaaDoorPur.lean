/- What is refused changes nothing, and answers 0. -/
import Derived.Test.YtcgabodkegcpgaaDoorSpec
namespace Go.Proofs.YtcgabodkegcpgaaDoor
set_option linter.unusedVariables false

def Ref (K : Ker) (o : Out) : Prop := o.e ≠ 0 → o.K = K ∧ o.n = 0
theorem Ref.no {K : Ker} {e : Int} : Ref K ⟨K, 0, e⟩ := fun _ => ⟨rfl, rfl⟩
theorem Ref.ok {K K' : Ker} {n : Int} : Ref K ⟨K', n, 0⟩ := fun h => absurd rfl h
theorem Ref.ite {K : Ker} {c : Prop} [Decidable c] {a b : Out} (ha : Ref K a) (hb : Ref K b) : Ref K (if c then a else b) := by split <;> assumption
theorem ref_do (K : Ker) (s call : Nat) (a b c : Int) : Ref K (kDo K s call a b c) := by
  unfold kDo
  split
  all_goals first | (with_reducible exact Ref.no) | skip
  all_goals first | unfold kMap | unfold kUnmap | unfold kProtect | unfold kLoad | unfold kStore | unfold kPipe | unfold kDup | unfold kClose | unfold kWrite | unfold kRead | unfold kSpawn | unfold kCopy | unfold kGive | unfold kDrop | unfold kShut | unfold kExit | unfold kReap | unfold kStart | skip
  all_goals (repeat' (with_reducible (first | refine Ref.ite ?_ ?_ | exact Ref.ok | exact Ref.no)))
theorem ref_call (K : Ker) (slot call a b c : Int) : Ref K (kCall K slot call a b c) := by
  unfold kCall
  exact Ref.ite Ref.no (Ref.ite Ref.no (Ref.ite Ref.no (ref_do _ _ _ _ _ _)))
end Go.Proofs.YtcgabodkegcpgaaDoor
