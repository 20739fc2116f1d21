/-
  NARROWER THAN 'FOR EVERY INPUT', by the rows' own cells (each row's printed sentence says how): Memory: laid · Calls: laid · Libs: laid · Apart: laid.
  DERIVED. THE GIVEN ROWS OF THIS SEAT. 4 by the template 'for every input the law returns true; each argument reads behind the call as it read before'; 0 by the template 'total and deterministic' (their statements: YtcgabodkegcpgaaGreatDoorTotals.lean).
  GIVEN WITH THE SEED: the statements are not yours to turn. If you find one false, say at which input.
  Laid BY PROGRAM, IN A SANDBOX (cutbox-rows.mjs): the forced cells as the released guide's own fill.sh prints them over the translation de75df764000a1a9… (all of the seat's roots in one cut). By AI agents, Wed Nov 11 2026. No macro, syntax, notation, axiom, sorry.
-/
import Derived.Test.YtcgabodkegcpgaaGreatDoorChecked
import GoSem.Claim
import GoSem.ClaimJoined
import GoSem.ClaimMapViews
import Derived.JoinedTies
import Derived.KernelRfl
namespace Go.Proofs.YtcgabodkegcpgaaGreatDoor
/- THE CELL 'sum', in the pinned program and in every row, IS THE sha256 OF THE DUMP (.gsa) THAT YtcgabodkegcpgaaGreatDoorProg.lean LOADS. Nothing in Lean hashes anything: it is a label: what it is worth is what the hold of that sum in a sandbox is worth. -/
noncomputable def Tryz.pinned : Pinned := { name := "ytcgabodkegcpgaagreatdoor", sum := "de75df764000a1a9e1c6aa95c4c84f8819c541671fb2501e6e783e0a21d68b52", checked := Tryz.checked }
namespace Rows
def none {H : Type} : Left H := { results := [], args := [] }

/- WHAT THE LISTED PACKAGE-LEVEL VARIABLES READ AS WHEN THE CALL BEGINS. Each datum BY PROGRAM (the guide's laid-datum.mjs) off the statement by which the dump's own 'gosem.cut.vars' lays the variable. In a bare row this is a premise. The card (YtcgabodkegcpgaaGreatDoorCards.lean) ties it to the program's text. -/
def laid_burrow_kernel_calls {H : Type} : DataW H := .agg [.agg [.lit (.bool false), .agg [.lit (.int .i64 0), .lit (.int .i64 0), .lit (.int .i64 0)]], .agg [.lit (.bool true), .agg [.lit (.int .i64 0), .lit (.int .i64 0), .lit (.int .i64 0)]], .agg [.lit (.bool true), .agg [.lit (.int .i64 4), .lit (.int .i64 1), .lit (.int .i64 0)]], .agg [.lit (.bool true), .agg [.lit (.int .i64 4), .lit (.int .i64 0), .lit (.int .i64 0)]], .agg [.lit (.bool true), .agg [.lit (.int .i64 4), .lit (.int .i64 0), .lit (.int .i64 0)]], .agg [.lit (.bool true), .agg [.lit (.int .i64 2), .lit (.int .i64 1), .lit (.int .i64 0)]], .agg [.lit (.bool true), .agg [.lit (.int .i64 2), .lit (.int .i64 4), .lit (.int .i64 1)]], .agg [.lit (.bool true), .agg [.lit (.int .i64 2), .lit (.int .i64 5), .lit (.int .i64 5)]], .agg [.lit (.bool true), .agg [.lit (.int .i64 2), .lit (.int .i64 0), .lit (.int .i64 0)]], .agg [.lit (.bool true), .agg [.lit (.int .i64 0), .lit (.int .i64 0), .lit (.int .i64 0)]], .agg [.lit (.bool true), .agg [.lit (.int .i64 2), .lit (.int .i64 4), .lit (.int .i64 0)]], .agg [.lit (.bool true), .agg [.lit (.int .i64 2), .lit (.int .i64 5), .lit (.int .i64 0)]], .agg [.lit (.bool true), .agg [.lit (.int .i64 2), .lit (.int .i64 0), .lit (.int .i64 0)]], .agg [.lit (.bool true), .agg [.lit (.int .i64 3), .lit (.int .i64 1), .lit (.int .i64 5)]], .agg [.lit (.bool true), .agg [.lit (.int .i64 5), .lit (.int .i64 5), .lit (.int .i64 0)]], .agg [.lit (.bool true), .agg [.lit (.int .i64 5), .lit (.int .i64 0), .lit (.int .i64 0)]], .agg [.lit (.bool true), .agg [.lit (.int .i64 5), .lit (.int .i64 4), .lit (.int .i64 6)]], .agg [.lit (.bool true), .agg [.lit (.int .i64 5), .lit (.int .i64 4), .lit (.int .i64 6)]], .agg [.lit (.bool true), .agg [.lit (.int .i64 4), .lit (.int .i64 6), .lit (.int .i64 0)]], .agg [.lit (.bool true), .agg [.lit (.int .i64 4), .lit (.int .i64 6), .lit (.int .i64 0)]]]

/-- 'burrowlaw.Memory': WHATEVER THE INPUT: true; the input reads as it did. -/
def memorySpec : ChangeSpec := { name := "memory", fn := fun _ => fun
  | [d1, d2] => { results := [.lit (.bool true)], args := [d1, d2] }
  | _ => none }
def memoryRow : OpenClaim := { program := "ytcgabodkegcpgaagreatdoor", sum := "de75df764000a1a9e1c6aa95c4c84f8819c541671fb2501e6e783e0a21d68b52", func := "burrow/burrowlaw.Memory", spec := "memory", unfollowed := true, recurses := true, named := ["burrow/kernel.calls"], leaving := true, apart := false, laid := [("burrow/kernel.calls", laid_burrow_kernel_calls)] }
def MemorySaid : Prop := memoryRow.holds Tryz.pinned (OpenSpec.ofChange memorySpec)

/-- ITS FALSE NEIGHBOUR: 'it returns false'. Refute it at one input. -/
def memoryWrong : ChangeSpec := { name := "memory", fn := fun _ => fun
  | [d1, d2] => { results := [.lit (.bool false)], args := [d1, d2] }
  | _ => none }
def MemoryWrongFalsely : Prop := memoryRow.holds Tryz.pinned (OpenSpec.ofChange memoryWrong)

/-- 'burrowlaw.Calls': WHATEVER THE INPUT: true; the input reads as it did. -/
def callsSpec : ChangeSpec := { name := "calls", fn := fun _ => fun
  | [d1, d2] => { results := [.lit (.bool true)], args := [d1, d2] }
  | _ => none }
def callsRow : OpenClaim := { program := "ytcgabodkegcpgaagreatdoor", sum := "de75df764000a1a9e1c6aa95c4c84f8819c541671fb2501e6e783e0a21d68b52", func := "burrow/burrowlaw.Calls", spec := "calls", unfollowed := true, recurses := true, named := ["burrow/kernel.calls"], leaving := true, apart := false, laid := [("burrow/kernel.calls", laid_burrow_kernel_calls)] }
def CallsSaid : Prop := callsRow.holds Tryz.pinned (OpenSpec.ofChange callsSpec)

/-- ITS FALSE NEIGHBOUR: 'it returns false'. Refute it at one input. -/
def callsWrong : ChangeSpec := { name := "calls", fn := fun _ => fun
  | [d1, d2] => { results := [.lit (.bool false)], args := [d1, d2] }
  | _ => none }
def CallsWrongFalsely : Prop := callsRow.holds Tryz.pinned (OpenSpec.ofChange callsWrong)

/-- 'burrowlaw.Libs': WHATEVER THE INPUT: true; the input reads as it did. -/
def libsSpec : ChangeSpec := { name := "libs", fn := fun _ => fun
  | [d1, d2] => { results := [.lit (.bool true)], args := [d1, d2] }
  | _ => none }
def libsRow : OpenClaim := { program := "ytcgabodkegcpgaagreatdoor", sum := "de75df764000a1a9e1c6aa95c4c84f8819c541671fb2501e6e783e0a21d68b52", func := "burrow/burrowlaw.Libs", spec := "libs", unfollowed := true, recurses := true, named := ["burrow/kernel.calls"], leaving := true, apart := false, laid := [("burrow/kernel.calls", laid_burrow_kernel_calls)] }
def LibsSaid : Prop := libsRow.holds Tryz.pinned (OpenSpec.ofChange libsSpec)

/-- ITS FALSE NEIGHBOUR: 'it returns false'. Refute it at one input. -/
def libsWrong : ChangeSpec := { name := "libs", fn := fun _ => fun
  | [d1, d2] => { results := [.lit (.bool false)], args := [d1, d2] }
  | _ => none }
def LibsWrongFalsely : Prop := libsRow.holds Tryz.pinned (OpenSpec.ofChange libsWrong)

/-- 'burrowlaw.Apart': WHATEVER THE INPUT: true; the input reads as it did. -/
def apartSpec : ChangeSpec := { name := "apart", fn := fun _ => fun
  | [d1, d2, d3, d4] => { results := [.lit (.bool true)], args := [d1, d2, d3, d4] }
  | _ => none }
def apartRow : OpenClaim := { program := "ytcgabodkegcpgaagreatdoor", sum := "de75df764000a1a9e1c6aa95c4c84f8819c541671fb2501e6e783e0a21d68b52", func := "burrow/burrowlaw.Apart", spec := "apart", unfollowed := true, recurses := true, named := ["burrow/kernel.calls"], leaving := true, apart := false, laid := [("burrow/kernel.calls", laid_burrow_kernel_calls)] }
def ApartSaid : Prop := apartRow.holds Tryz.pinned (OpenSpec.ofChange apartSpec)

/-- ITS FALSE NEIGHBOUR: 'it returns false'. Refute it at one input. -/
def apartWrong : ChangeSpec := { name := "apart", fn := fun _ => fun
  | [d1, d2, d3, d4] => { results := [.lit (.bool false)], args := [d1, d2, d3, d4] }
  | _ => none }
def ApartWrongFalsely : Prop := apartRow.holds Tryz.pinned (OpenSpec.ofChange apartWrong)

/- THE SECOND FORM. 'bulk': how many values and letters a reading holds, each counted each time it is reached (what is shared counts as often as it is met; a slice's spare places count too). A statement '..UptoSaid' is the law's where the arguments, and the package variables that the reading takes, are together of bulk at most 1048576: NARROWER than '..Said'. Prove '..Said' where nothing that the law and all that it calls make is longer than what came in: it says more and counts as full. Else prove '..UptoSaid'. A law counts once. -/
mutual
def uptoBulk {H : Type} : DataW H → Nat
  | .lit (.string bytes) => bytes.length + 1
  | .lit _ => 1
  | .nil => 1
  | .ptr d => uptoBulk d + 1
  | .slice elems spare => uptoBulkAll elems + uptoBulkAll spare + 1
  | .agg parts => uptoBulkAll parts + 1
  | .iface _ d => uptoBulk d + 1
  | .map entries => uptoBulkEntries entries + 1
  | .held _ => 1
def uptoBulkAll {H : Type} : List (DataW H) → Nat
  | [] => 0
  | d :: r => uptoBulk d + uptoBulkAll r
def uptoBulkEntries {H : Type} : List (Lit × DataW H) → Nat
  | [] => 0
  | x :: r => uptoBulkEntry x + uptoBulkEntries r
def uptoBulkEntry {H : Type} : Lit × DataW H → Nat
  | (.string bytes, d) => bytes.length + uptoBulk d + 1
  | (_, d) => uptoBulk d + 1
 end
def uptoSmall : (H : Type) → List (DataW H) → Bool := fun _ ds => decide (uptoBulkAll ds ≤ 1048576)
def OpenSpec.upto (s : _root_.Go.ChangeSpec) : _root_.Go.OpenSpec := { _root_.Go.OpenSpec.ofChange s with cond := some uptoSmall }

/-- 'burrowlaw.Memory', WHERE WHAT IT READS IS OF BULK AT MOST 1048576: true; the input reads as it did. -/
def memoryUptoRow : OpenClaim := { program := "ytcgabodkegcpgaagreatdoor", sum := "de75df764000a1a9e1c6aa95c4c84f8819c541671fb2501e6e783e0a21d68b52", func := "burrow/burrowlaw.Memory", spec := "memory", unfollowed := true, recurses := true, named := ["burrow/kernel.calls"], leaving := true, apart := false, laid := [("burrow/kernel.calls", laid_burrow_kernel_calls)], narrowed := true }
def MemoryUptoSaid : Prop := memoryUptoRow.holds Tryz.pinned (OpenSpec.upto memorySpec)

/-- 'burrowlaw.Calls', WHERE WHAT IT READS IS OF BULK AT MOST 1048576: true; the input reads as it did. -/
def callsUptoRow : OpenClaim := { program := "ytcgabodkegcpgaagreatdoor", sum := "de75df764000a1a9e1c6aa95c4c84f8819c541671fb2501e6e783e0a21d68b52", func := "burrow/burrowlaw.Calls", spec := "calls", unfollowed := true, recurses := true, named := ["burrow/kernel.calls"], leaving := true, apart := false, laid := [("burrow/kernel.calls", laid_burrow_kernel_calls)], narrowed := true }
def CallsUptoSaid : Prop := callsUptoRow.holds Tryz.pinned (OpenSpec.upto callsSpec)

/-- 'burrowlaw.Libs', WHERE WHAT IT READS IS OF BULK AT MOST 1048576: true; the input reads as it did. -/
def libsUptoRow : OpenClaim := { program := "ytcgabodkegcpgaagreatdoor", sum := "de75df764000a1a9e1c6aa95c4c84f8819c541671fb2501e6e783e0a21d68b52", func := "burrow/burrowlaw.Libs", spec := "libs", unfollowed := true, recurses := true, named := ["burrow/kernel.calls"], leaving := true, apart := false, laid := [("burrow/kernel.calls", laid_burrow_kernel_calls)], narrowed := true }
def LibsUptoSaid : Prop := libsUptoRow.holds Tryz.pinned (OpenSpec.upto libsSpec)

/-- 'burrowlaw.Apart', WHERE WHAT IT READS IS OF BULK AT MOST 1048576: true; the input reads as it did. -/
def apartUptoRow : OpenClaim := { program := "ytcgabodkegcpgaagreatdoor", sum := "de75df764000a1a9e1c6aa95c4c84f8819c541671fb2501e6e783e0a21d68b52", func := "burrow/burrowlaw.Apart", spec := "apart", unfollowed := true, recurses := true, named := ["burrow/kernel.calls"], leaving := true, apart := false, laid := [("burrow/kernel.calls", laid_burrow_kernel_calls)], narrowed := true }
def ApartUptoSaid : Prop := apartUptoRow.holds Tryz.pinned (OpenSpec.upto apartSpec)

end Rows
end Go.Proofs.YtcgabodkegcpgaaGreatDoor
