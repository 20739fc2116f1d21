/-
  NARROWER THAN 'FOR EVERY INPUT', by the rows' own cells (each row's printed sentence says how): Memory: laid · Passes: laid · Calls: laid · Refused: laid.
  DERIVED. THE GIVEN ROWS OF THIS SEAT. 4 by the template 'for every input the law returns true; each argument reads behind the call as it read before'; 0 by the template 'total and deterministic' (their statements: YtmocelladioooaaDoorTotals.lean).
  GIVEN WITH THE SEED: the statements are not yours to turn. If you find one false, say at which input.
  Laid BY PROGRAM, IN A SANDBOX (cutbox-rows.mjs): the forced cells as the released guide's own fill.sh prints them over the translation 62d6e657f96071c9… (all of the seat's roots in one cut). By AI agents, Wed Nov 11 2026. No macro, syntax, notation, axiom, sorry.
-/
import Derived.Test.YtmocelladioooaaDoorChecked
import GoSem.Claim
import GoSem.ClaimJoined
import GoSem.ClaimMapViews
import Derived.JoinedTies
import Derived.KernelRfl
namespace Go.Proofs.YtmocelladioooaaDoor
/- THE CELL 'sum', in the pinned program and in every row, IS THE sha256 OF THE DUMP (.gsa) THAT YtmocelladioooaaDoorProg.lean LOADS. Nothing in Lean hashes anything: it is a label: what it is worth is what the hold of that sum in a sandbox is worth. -/
noncomputable def Tryd.pinned : Pinned := { name := "ytmocelladioooaadoor", sum := "62d6e657f96071c998407231c8800f061aebd5794c02fb47fc4dbf9a0b8bdb42", checked := Tryd.checked }
namespace Rows
def none {H : Type} : Left H := { results := [], args := [] }

/- WHAT THE LISTED PACKAGE-LEVEL VARIABLES READ AS WHEN THE CALL BEGINS. Each datum BY PROGRAM (the guide's laid-datum.mjs) off the statement by which the dump's own 'gosem.cut.vars' lays the variable. In a bare row this is a premise. The card (YtmocelladioooaaDoorCards.lean) ties it to the program's text. -/
def laid_burrow_kernel_calls {H : Type} : DataW H := .agg [.agg [.lit (.bool false), .agg [.lit (.int .i64 0), .lit (.int .i64 0), .lit (.int .i64 0)]], .agg [.lit (.bool true), .agg [.lit (.int .i64 0), .lit (.int .i64 0), .lit (.int .i64 0)]], .agg [.lit (.bool true), .agg [.lit (.int .i64 4), .lit (.int .i64 1), .lit (.int .i64 0)]], .agg [.lit (.bool true), .agg [.lit (.int .i64 4), .lit (.int .i64 0), .lit (.int .i64 0)]], .agg [.lit (.bool true), .agg [.lit (.int .i64 4), .lit (.int .i64 0), .lit (.int .i64 0)]], .agg [.lit (.bool true), .agg [.lit (.int .i64 2), .lit (.int .i64 1), .lit (.int .i64 0)]], .agg [.lit (.bool true), .agg [.lit (.int .i64 2), .lit (.int .i64 4), .lit (.int .i64 1)]], .agg [.lit (.bool true), .agg [.lit (.int .i64 2), .lit (.int .i64 5), .lit (.int .i64 5)]], .agg [.lit (.bool true), .agg [.lit (.int .i64 2), .lit (.int .i64 0), .lit (.int .i64 0)]], .agg [.lit (.bool true), .agg [.lit (.int .i64 0), .lit (.int .i64 0), .lit (.int .i64 0)]], .agg [.lit (.bool true), .agg [.lit (.int .i64 2), .lit (.int .i64 4), .lit (.int .i64 0)]], .agg [.lit (.bool true), .agg [.lit (.int .i64 2), .lit (.int .i64 5), .lit (.int .i64 0)]], .agg [.lit (.bool true), .agg [.lit (.int .i64 2), .lit (.int .i64 0), .lit (.int .i64 0)]], .agg [.lit (.bool true), .agg [.lit (.int .i64 3), .lit (.int .i64 1), .lit (.int .i64 5)]], .agg [.lit (.bool true), .agg [.lit (.int .i64 5), .lit (.int .i64 5), .lit (.int .i64 0)]], .agg [.lit (.bool true), .agg [.lit (.int .i64 5), .lit (.int .i64 0), .lit (.int .i64 0)]], .agg [.lit (.bool true), .agg [.lit (.int .i64 5), .lit (.int .i64 4), .lit (.int .i64 6)]], .agg [.lit (.bool true), .agg [.lit (.int .i64 5), .lit (.int .i64 4), .lit (.int .i64 6)]], .agg [.lit (.bool true), .agg [.lit (.int .i64 4), .lit (.int .i64 6), .lit (.int .i64 0)]], .agg [.lit (.bool true), .agg [.lit (.int .i64 4), .lit (.int .i64 6), .lit (.int .i64 0)]]]

/-- 'burrowlaw.Memory': WHATEVER THE INPUT: true; the input reads as it did. -/
def memorySpec : ChangeSpec := { name := "memory", fn := fun _ => fun
  | [d1, d2] => { results := [.lit (.bool true)], args := [d1, d2] }
  | _ => none }
def memoryRow : OpenClaim := { program := "ytmocelladioooaadoor", sum := "62d6e657f96071c998407231c8800f061aebd5794c02fb47fc4dbf9a0b8bdb42", func := "burrow/burrowlaw.Memory", spec := "memory", named := ["burrow/kernel.calls"], apart := false, laid := [("burrow/kernel.calls", laid_burrow_kernel_calls)] }
def MemorySaid : Prop := memoryRow.holds Tryd.pinned (OpenSpec.ofChange memorySpec)

/-- ITS FALSE NEIGHBOUR: 'it returns false'. Refute it at one input. -/
def memoryWrong : ChangeSpec := { name := "memory", fn := fun _ => fun
  | [d1, d2] => { results := [.lit (.bool false)], args := [d1, d2] }
  | _ => none }
def MemoryWrongFalsely : Prop := memoryRow.holds Tryd.pinned (OpenSpec.ofChange memoryWrong)

/-- 'burrowlaw.Passes': WHATEVER THE INPUT: true; the input reads as it did. -/
def passesSpec : ChangeSpec := { name := "passes", fn := fun _ => fun
  | [d1, d2] => { results := [.lit (.bool true)], args := [d1, d2] }
  | _ => none }
def passesRow : OpenClaim := { program := "ytmocelladioooaadoor", sum := "62d6e657f96071c998407231c8800f061aebd5794c02fb47fc4dbf9a0b8bdb42", func := "burrow/burrowlaw.Passes", spec := "passes", named := ["burrow/kernel.calls"], apart := false, laid := [("burrow/kernel.calls", laid_burrow_kernel_calls)] }
def PassesSaid : Prop := passesRow.holds Tryd.pinned (OpenSpec.ofChange passesSpec)

/-- ITS FALSE NEIGHBOUR: 'it returns false'. Refute it at one input. -/
def passesWrong : ChangeSpec := { name := "passes", fn := fun _ => fun
  | [d1, d2] => { results := [.lit (.bool false)], args := [d1, d2] }
  | _ => none }
def PassesWrongFalsely : Prop := passesRow.holds Tryd.pinned (OpenSpec.ofChange passesWrong)

/-- 'burrowlaw.Calls': WHATEVER THE INPUT: true; the input reads as it did. -/
def callsSpec : ChangeSpec := { name := "calls", fn := fun _ => fun
  | [d1, d2] => { results := [.lit (.bool true)], args := [d1, d2] }
  | _ => none }
def callsRow : OpenClaim := { program := "ytmocelladioooaadoor", sum := "62d6e657f96071c998407231c8800f061aebd5794c02fb47fc4dbf9a0b8bdb42", func := "burrow/burrowlaw.Calls", spec := "calls", named := ["burrow/kernel.calls"], apart := false, laid := [("burrow/kernel.calls", laid_burrow_kernel_calls)] }
def CallsSaid : Prop := callsRow.holds Tryd.pinned (OpenSpec.ofChange callsSpec)

/-- ITS FALSE NEIGHBOUR: 'it returns false'. Refute it at one input. -/
def callsWrong : ChangeSpec := { name := "calls", fn := fun _ => fun
  | [d1, d2] => { results := [.lit (.bool false)], args := [d1, d2] }
  | _ => none }
def CallsWrongFalsely : Prop := callsRow.holds Tryd.pinned (OpenSpec.ofChange callsWrong)

/-- 'burrowlaw.Refused': WHATEVER THE INPUT: true; the input reads as it did. -/
def refusedSpec : ChangeSpec := { name := "refused", fn := fun _ => fun
  | [d1, d2] => { results := [.lit (.bool true)], args := [d1, d2] }
  | _ => none }
def refusedRow : OpenClaim := { program := "ytmocelladioooaadoor", sum := "62d6e657f96071c998407231c8800f061aebd5794c02fb47fc4dbf9a0b8bdb42", func := "burrow/burrowlaw.Refused", spec := "refused", named := ["burrow/kernel.calls"], apart := false, laid := [("burrow/kernel.calls", laid_burrow_kernel_calls)] }
def RefusedSaid : Prop := refusedRow.holds Tryd.pinned (OpenSpec.ofChange refusedSpec)

/-- ITS FALSE NEIGHBOUR: 'it returns false'. Refute it at one input. -/
def refusedWrong : ChangeSpec := { name := "refused", fn := fun _ => fun
  | [d1, d2] => { results := [.lit (.bool false)], args := [d1, d2] }
  | _ => none }
def RefusedWrongFalsely : Prop := refusedRow.holds Tryd.pinned (OpenSpec.ofChange refusedWrong)

/- THE SECOND FORM. 'bulk': how many values and letters a reading holds, each counted each time it is reached (what is shared counts as often as it is met; a slice's spare places count too). A statement '..UptoSaid' is the law's where the arguments, and the package variables that the reading takes, are together of bulk at most 1048576: NARROWER than '..Said'. Prove '..Said' where nothing that the law and all that it calls make is longer than what came in: it says more and counts as full. Else prove '..UptoSaid'. A law counts once. -/
mutual
def uptoBulk {H : Type} : DataW H → Nat
  | .lit (.string bytes) => bytes.length + 1
  | .lit _ => 1
  | .nil => 1
  | .ptr d => uptoBulk d + 1
  | .slice elems spare => uptoBulkAll elems + uptoBulkAll spare + 1
  | .agg parts => uptoBulkAll parts + 1
  | .iface _ d => uptoBulk d + 1
  | .map entries => uptoBulkEntries entries + 1
  | .held _ => 1
def uptoBulkAll {H : Type} : List (DataW H) → Nat
  | [] => 0
  | d :: r => uptoBulk d + uptoBulkAll r
def uptoBulkEntries {H : Type} : List (Lit × DataW H) → Nat
  | [] => 0
  | x :: r => uptoBulkEntry x + uptoBulkEntries r
def uptoBulkEntry {H : Type} : Lit × DataW H → Nat
  | (.string bytes, d) => bytes.length + uptoBulk d + 1
  | (_, d) => uptoBulk d + 1
 end
def uptoSmall : (H : Type) → List (DataW H) → Bool := fun _ ds => decide (uptoBulkAll ds ≤ 1048576)
def OpenSpec.upto (s : _root_.Go.ChangeSpec) : _root_.Go.OpenSpec := { _root_.Go.OpenSpec.ofChange s with cond := some uptoSmall }

/-- 'burrowlaw.Memory', WHERE WHAT IT READS IS OF BULK AT MOST 1048576: true; the input reads as it did. -/
def memoryUptoRow : OpenClaim := { program := "ytmocelladioooaadoor", sum := "62d6e657f96071c998407231c8800f061aebd5794c02fb47fc4dbf9a0b8bdb42", func := "burrow/burrowlaw.Memory", spec := "memory", named := ["burrow/kernel.calls"], apart := false, laid := [("burrow/kernel.calls", laid_burrow_kernel_calls)], narrowed := true }
def MemoryUptoSaid : Prop := memoryUptoRow.holds Tryd.pinned (OpenSpec.upto memorySpec)

/-- 'burrowlaw.Passes', WHERE WHAT IT READS IS OF BULK AT MOST 1048576: true; the input reads as it did. -/
def passesUptoRow : OpenClaim := { program := "ytmocelladioooaadoor", sum := "62d6e657f96071c998407231c8800f061aebd5794c02fb47fc4dbf9a0b8bdb42", func := "burrow/burrowlaw.Passes", spec := "passes", named := ["burrow/kernel.calls"], apart := false, laid := [("burrow/kernel.calls", laid_burrow_kernel_calls)], narrowed := true }
def PassesUptoSaid : Prop := passesUptoRow.holds Tryd.pinned (OpenSpec.upto passesSpec)

/-- 'burrowlaw.Calls', WHERE WHAT IT READS IS OF BULK AT MOST 1048576: true; the input reads as it did. -/
def callsUptoRow : OpenClaim := { program := "ytmocelladioooaadoor", sum := "62d6e657f96071c998407231c8800f061aebd5794c02fb47fc4dbf9a0b8bdb42", func := "burrow/burrowlaw.Calls", spec := "calls", named := ["burrow/kernel.calls"], apart := false, laid := [("burrow/kernel.calls", laid_burrow_kernel_calls)], narrowed := true }
def CallsUptoSaid : Prop := callsUptoRow.holds Tryd.pinned (OpenSpec.upto callsSpec)

/-- 'burrowlaw.Refused', WHERE WHAT IT READS IS OF BULK AT MOST 1048576: true; the input reads as it did. -/
def refusedUptoRow : OpenClaim := { program := "ytmocelladioooaadoor", sum := "62d6e657f96071c998407231c8800f061aebd5794c02fb47fc4dbf9a0b8bdb42", func := "burrow/burrowlaw.Refused", spec := "refused", named := ["burrow/kernel.calls"], apart := false, laid := [("burrow/kernel.calls", laid_burrow_kernel_calls)], narrowed := true }
def RefusedUptoSaid : Prop := refusedUptoRow.holds Tryd.pinned (OpenSpec.upto refusedSpec)

end Rows
end Go.Proofs.YtmocelladioooaaDoor
