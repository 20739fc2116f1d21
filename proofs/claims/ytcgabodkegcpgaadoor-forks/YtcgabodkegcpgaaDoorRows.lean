/-
  NARROWER THAN 'FOR EVERY INPUT', by the rows' own cells (each row's printed sentence says how): Passes: laid · Refused: laid · Books: laid · Cancels: laid · Forks: laid · Sends: laid.
  DERIVED. THE GIVEN ROWS OF THIS SEAT. 6 by the template 'for every input the law returns true; each argument reads behind the call as it read before'; 0 by the template 'total and deterministic' (their statements: YtcgabodkegcpgaaDoorTotals.lean).
  GIVEN WITH THE SEED: the statements are not yours to turn. If you find one false, say at which input.
  Laid BY PROGRAM, IN A SANDBOX (cutbox-rows.mjs): the forced cells as the released guide's own fill.sh prints them over the translation dca16b17d7e5e7a7… (all of the seat's roots in one cut). By AI agents, Wed Nov 11 2026. No macro, syntax, notation, axiom, sorry.
-/
import Derived.Test.YtcgabodkegcpgaaDoorChecked
import GoSem.Claim
import GoSem.ClaimJoined
import GoSem.ClaimMapViews
import Derived.JoinedTies
import Derived.KernelRfl
namespace Go.Proofs.YtcgabodkegcpgaaDoor
/- THE CELL 'sum', in the pinned program and in every row, IS THE sha256 OF THE DUMP (.gsa) THAT YtcgabodkegcpgaaDoorProg.lean LOADS. Nothing in Lean hashes anything: it is a label: what it is worth is what the hold of that sum in a sandbox is worth. -/
noncomputable def Tryd.pinned : Pinned := { name := "ytcgabodkegcpgaadoor", sum := "dca16b17d7e5e7a77d48ef66570804163e05c113840f8e5b41d4c0119c44e7a7", checked := Tryd.checked }
namespace Rows
def none {H : Type} : Left H := { results := [], args := [] }

/- WHAT THE LISTED PACKAGE-LEVEL VARIABLES READ AS WHEN THE CALL BEGINS. Each datum BY PROGRAM (the guide's laid-datum.mjs) off the statement by which the dump's own 'gosem.cut.vars' lays the variable. In a bare row this is a premise. The card (YtcgabodkegcpgaaDoorCards.lean) ties it to the program's text. -/
def laid_burrow_kernel_calls {H : Type} : DataW H := .agg [.agg [.lit (.bool false), .agg [.lit (.int .i64 0), .lit (.int .i64 0), .lit (.int .i64 0)]], .agg [.lit (.bool true), .agg [.lit (.int .i64 0), .lit (.int .i64 0), .lit (.int .i64 0)]], .agg [.lit (.bool true), .agg [.lit (.int .i64 4), .lit (.int .i64 1), .lit (.int .i64 0)]], .agg [.lit (.bool true), .agg [.lit (.int .i64 4), .lit (.int .i64 0), .lit (.int .i64 0)]], .agg [.lit (.bool true), .agg [.lit (.int .i64 4), .lit (.int .i64 0), .lit (.int .i64 0)]], .agg [.lit (.bool true), .agg [.lit (.int .i64 2), .lit (.int .i64 1), .lit (.int .i64 0)]], .agg [.lit (.bool true), .agg [.lit (.int .i64 2), .lit (.int .i64 4), .lit (.int .i64 1)]], .agg [.lit (.bool true), .agg [.lit (.int .i64 2), .lit (.int .i64 5), .lit (.int .i64 5)]], .agg [.lit (.bool true), .agg [.lit (.int .i64 2), .lit (.int .i64 0), .lit (.int .i64 0)]], .agg [.lit (.bool true), .agg [.lit (.int .i64 0), .lit (.int .i64 0), .lit (.int .i64 0)]], .agg [.lit (.bool true), .agg [.lit (.int .i64 2), .lit (.int .i64 4), .lit (.int .i64 0)]], .agg [.lit (.bool true), .agg [.lit (.int .i64 2), .lit (.int .i64 5), .lit (.int .i64 0)]], .agg [.lit (.bool true), .agg [.lit (.int .i64 2), .lit (.int .i64 0), .lit (.int .i64 0)]], .agg [.lit (.bool true), .agg [.lit (.int .i64 3), .lit (.int .i64 1), .lit (.int .i64 5)]], .agg [.lit (.bool true), .agg [.lit (.int .i64 5), .lit (.int .i64 5), .lit (.int .i64 0)]], .agg [.lit (.bool true), .agg [.lit (.int .i64 5), .lit (.int .i64 0), .lit (.int .i64 0)]], .agg [.lit (.bool true), .agg [.lit (.int .i64 5), .lit (.int .i64 4), .lit (.int .i64 6)]], .agg [.lit (.bool true), .agg [.lit (.int .i64 5), .lit (.int .i64 4), .lit (.int .i64 6)]], .agg [.lit (.bool true), .agg [.lit (.int .i64 4), .lit (.int .i64 6), .lit (.int .i64 0)]], .agg [.lit (.bool true), .agg [.lit (.int .i64 4), .lit (.int .i64 6), .lit (.int .i64 0)]]]

/-- 'burrowlaw.Passes': WHATEVER THE INPUT: true; the input reads as it did. -/
def passesSpec : ChangeSpec := { name := "passes", fn := fun _ => fun
  | [d1, d2] => { results := [.lit (.bool true)], args := [d1, d2] }
  | _ => none }
def passesRow : OpenClaim := { program := "ytcgabodkegcpgaadoor", sum := "dca16b17d7e5e7a77d48ef66570804163e05c113840f8e5b41d4c0119c44e7a7", func := "burrow/burrowlaw.Passes", spec := "passes", named := ["burrow/kernel.calls"], apart := false, laid := [("burrow/kernel.calls", laid_burrow_kernel_calls)] }
def PassesSaid : Prop := passesRow.holds Tryd.pinned (OpenSpec.ofChange passesSpec)

/-- ITS FALSE NEIGHBOUR: 'it returns false'. Refute it at one input. -/
def passesWrong : ChangeSpec := { name := "passes", fn := fun _ => fun
  | [d1, d2] => { results := [.lit (.bool false)], args := [d1, d2] }
  | _ => none }
def PassesWrongFalsely : Prop := passesRow.holds Tryd.pinned (OpenSpec.ofChange passesWrong)

/-- 'burrowlaw.Refused': WHATEVER THE INPUT: true; the input reads as it did. -/
def refusedSpec : ChangeSpec := { name := "refused", fn := fun _ => fun
  | [d1, d2] => { results := [.lit (.bool true)], args := [d1, d2] }
  | _ => none }
def refusedRow : OpenClaim := { program := "ytcgabodkegcpgaadoor", sum := "dca16b17d7e5e7a77d48ef66570804163e05c113840f8e5b41d4c0119c44e7a7", func := "burrow/burrowlaw.Refused", spec := "refused", named := ["burrow/kernel.calls"], apart := false, laid := [("burrow/kernel.calls", laid_burrow_kernel_calls)] }
def RefusedSaid : Prop := refusedRow.holds Tryd.pinned (OpenSpec.ofChange refusedSpec)

/-- ITS FALSE NEIGHBOUR: 'it returns false'. Refute it at one input. -/
def refusedWrong : ChangeSpec := { name := "refused", fn := fun _ => fun
  | [d1, d2] => { results := [.lit (.bool false)], args := [d1, d2] }
  | _ => none }
def RefusedWrongFalsely : Prop := refusedRow.holds Tryd.pinned (OpenSpec.ofChange refusedWrong)

/-- 'burrowlaw.Books': WHATEVER THE INPUT: true; the input reads as it did. -/
def booksSpec : ChangeSpec := { name := "books", fn := fun _ => fun
  | [d1, d2] => { results := [.lit (.bool true)], args := [d1, d2] }
  | _ => none }
def booksRow : OpenClaim := { program := "ytcgabodkegcpgaadoor", sum := "dca16b17d7e5e7a77d48ef66570804163e05c113840f8e5b41d4c0119c44e7a7", func := "burrow/burrowlaw.Books", spec := "books", unfollowed := true, recurses := true, named := ["burrow/kernel.calls"], leaving := true, apart := false, laid := [("burrow/kernel.calls", laid_burrow_kernel_calls)] }
def BooksSaid : Prop := booksRow.holds Tryd.pinned (OpenSpec.ofChange booksSpec)

/-- ITS FALSE NEIGHBOUR: 'it returns false'. Refute it at one input. -/
def booksWrong : ChangeSpec := { name := "books", fn := fun _ => fun
  | [d1, d2] => { results := [.lit (.bool false)], args := [d1, d2] }
  | _ => none }
def BooksWrongFalsely : Prop := booksRow.holds Tryd.pinned (OpenSpec.ofChange booksWrong)

/-- 'burrowlaw.Cancels': WHATEVER THE INPUT: true; the input reads as it did. -/
def cancelsSpec : ChangeSpec := { name := "cancels", fn := fun _ => fun
  | [d1, d2] => { results := [.lit (.bool true)], args := [d1, d2] }
  | _ => none }
def cancelsRow : OpenClaim := { program := "ytcgabodkegcpgaadoor", sum := "dca16b17d7e5e7a77d48ef66570804163e05c113840f8e5b41d4c0119c44e7a7", func := "burrow/burrowlaw.Cancels", spec := "cancels", unfollowed := true, recurses := true, named := ["burrow/kernel.calls"], leaving := true, apart := false, laid := [("burrow/kernel.calls", laid_burrow_kernel_calls)] }
def CancelsSaid : Prop := cancelsRow.holds Tryd.pinned (OpenSpec.ofChange cancelsSpec)

/-- ITS FALSE NEIGHBOUR: 'it returns false'. Refute it at one input. -/
def cancelsWrong : ChangeSpec := { name := "cancels", fn := fun _ => fun
  | [d1, d2] => { results := [.lit (.bool false)], args := [d1, d2] }
  | _ => none }
def CancelsWrongFalsely : Prop := cancelsRow.holds Tryd.pinned (OpenSpec.ofChange cancelsWrong)

/-- 'burrowlaw.Forks': WHATEVER THE INPUT: true; the input reads as it did. -/
def forksSpec : ChangeSpec := { name := "forks", fn := fun _ => fun
  | [d1, d2, d3, d4, d5] => { results := [.lit (.bool true)], args := [d1, d2, d3, d4, d5] }
  | _ => none }
def forksRow : OpenClaim := { program := "ytcgabodkegcpgaadoor", sum := "dca16b17d7e5e7a77d48ef66570804163e05c113840f8e5b41d4c0119c44e7a7", func := "burrow/burrowlaw.Forks", spec := "forks", unfollowed := true, recurses := true, named := ["burrow/kernel.calls"], leaving := true, apart := false, laid := [("burrow/kernel.calls", laid_burrow_kernel_calls)] }
def ForksSaid : Prop := forksRow.holds Tryd.pinned (OpenSpec.ofChange forksSpec)

/-- ITS FALSE NEIGHBOUR: 'it returns false'. Refute it at one input. -/
def forksWrong : ChangeSpec := { name := "forks", fn := fun _ => fun
  | [d1, d2, d3, d4, d5] => { results := [.lit (.bool false)], args := [d1, d2, d3, d4, d5] }
  | _ => none }
def ForksWrongFalsely : Prop := forksRow.holds Tryd.pinned (OpenSpec.ofChange forksWrong)

/-- 'burrowlaw.Sends': WHATEVER THE INPUT: true; the input reads as it did. -/
def sendsSpec : ChangeSpec := { name := "sends", fn := fun _ => fun
  | [d1, d2] => { results := [.lit (.bool true)], args := [d1, d2] }
  | _ => none }
def sendsRow : OpenClaim := { program := "ytcgabodkegcpgaadoor", sum := "dca16b17d7e5e7a77d48ef66570804163e05c113840f8e5b41d4c0119c44e7a7", func := "burrow/burrowlaw.Sends", spec := "sends", unfollowed := true, recurses := true, named := ["burrow/kernel.calls"], leaving := true, apart := false, laid := [("burrow/kernel.calls", laid_burrow_kernel_calls)] }
def SendsSaid : Prop := sendsRow.holds Tryd.pinned (OpenSpec.ofChange sendsSpec)

/-- ITS FALSE NEIGHBOUR: 'it returns false'. Refute it at one input. -/
def sendsWrong : ChangeSpec := { name := "sends", fn := fun _ => fun
  | [d1, d2] => { results := [.lit (.bool false)], args := [d1, d2] }
  | _ => none }
def SendsWrongFalsely : Prop := sendsRow.holds Tryd.pinned (OpenSpec.ofChange sendsWrong)

/- THE SECOND FORM. 'bulk': how many values and letters a reading holds, each counted each time it is reached (what is shared counts as often as it is met; a slice's spare places count too). A statement '..UptoSaid' is the law's where the arguments, and the package variables that the reading takes, are together of bulk at most 1048576: NARROWER than '..Said'. Prove '..Said' where nothing that the law and all that it calls make is longer than what came in: it says more and counts as full. Else prove '..UptoSaid'. A law counts once. -/
mutual
def uptoBulk {H : Type} : DataW H → Nat
  | .lit (.string bytes) => bytes.length + 1
  | .lit _ => 1
  | .nil => 1
  | .ptr d => uptoBulk d + 1
  | .slice elems spare => uptoBulkAll elems + uptoBulkAll spare + 1
  | .agg parts => uptoBulkAll parts + 1
  | .iface _ d => uptoBulk d + 1
  | .map entries => uptoBulkEntries entries + 1
  | .held _ => 1
def uptoBulkAll {H : Type} : List (DataW H) → Nat
  | [] => 0
  | d :: r => uptoBulk d + uptoBulkAll r
def uptoBulkEntries {H : Type} : List (Lit × DataW H) → Nat
  | [] => 0
  | x :: r => uptoBulkEntry x + uptoBulkEntries r
def uptoBulkEntry {H : Type} : Lit × DataW H → Nat
  | (.string bytes, d) => bytes.length + uptoBulk d + 1
  | (_, d) => uptoBulk d + 1
 end
def uptoSmall : (H : Type) → List (DataW H) → Bool := fun _ ds => decide (uptoBulkAll ds ≤ 1048576)
def OpenSpec.upto (s : _root_.Go.ChangeSpec) : _root_.Go.OpenSpec := { _root_.Go.OpenSpec.ofChange s with cond := some uptoSmall }

/-- 'burrowlaw.Passes', WHERE WHAT IT READS IS OF BULK AT MOST 1048576: true; the input reads as it did. -/
def passesUptoRow : OpenClaim := { program := "ytcgabodkegcpgaadoor", sum := "dca16b17d7e5e7a77d48ef66570804163e05c113840f8e5b41d4c0119c44e7a7", func := "burrow/burrowlaw.Passes", spec := "passes", named := ["burrow/kernel.calls"], apart := false, laid := [("burrow/kernel.calls", laid_burrow_kernel_calls)], narrowed := true }
def PassesUptoSaid : Prop := passesUptoRow.holds Tryd.pinned (OpenSpec.upto passesSpec)

/-- 'burrowlaw.Refused', WHERE WHAT IT READS IS OF BULK AT MOST 1048576: true; the input reads as it did. -/
def refusedUptoRow : OpenClaim := { program := "ytcgabodkegcpgaadoor", sum := "dca16b17d7e5e7a77d48ef66570804163e05c113840f8e5b41d4c0119c44e7a7", func := "burrow/burrowlaw.Refused", spec := "refused", named := ["burrow/kernel.calls"], apart := false, laid := [("burrow/kernel.calls", laid_burrow_kernel_calls)], narrowed := true }
def RefusedUptoSaid : Prop := refusedUptoRow.holds Tryd.pinned (OpenSpec.upto refusedSpec)

/-- 'burrowlaw.Books', WHERE WHAT IT READS IS OF BULK AT MOST 1048576: true; the input reads as it did. -/
def booksUptoRow : OpenClaim := { program := "ytcgabodkegcpgaadoor", sum := "dca16b17d7e5e7a77d48ef66570804163e05c113840f8e5b41d4c0119c44e7a7", func := "burrow/burrowlaw.Books", spec := "books", unfollowed := true, recurses := true, named := ["burrow/kernel.calls"], leaving := true, apart := false, laid := [("burrow/kernel.calls", laid_burrow_kernel_calls)], narrowed := true }
def BooksUptoSaid : Prop := booksUptoRow.holds Tryd.pinned (OpenSpec.upto booksSpec)

/-- 'burrowlaw.Cancels', WHERE WHAT IT READS IS OF BULK AT MOST 1048576: true; the input reads as it did. -/
def cancelsUptoRow : OpenClaim := { program := "ytcgabodkegcpgaadoor", sum := "dca16b17d7e5e7a77d48ef66570804163e05c113840f8e5b41d4c0119c44e7a7", func := "burrow/burrowlaw.Cancels", spec := "cancels", unfollowed := true, recurses := true, named := ["burrow/kernel.calls"], leaving := true, apart := false, laid := [("burrow/kernel.calls", laid_burrow_kernel_calls)], narrowed := true }
def CancelsUptoSaid : Prop := cancelsUptoRow.holds Tryd.pinned (OpenSpec.upto cancelsSpec)

/-- 'burrowlaw.Forks', WHERE WHAT IT READS IS OF BULK AT MOST 1048576: true; the input reads as it did. -/
def forksUptoRow : OpenClaim := { program := "ytcgabodkegcpgaadoor", sum := "dca16b17d7e5e7a77d48ef66570804163e05c113840f8e5b41d4c0119c44e7a7", func := "burrow/burrowlaw.Forks", spec := "forks", unfollowed := true, recurses := true, named := ["burrow/kernel.calls"], leaving := true, apart := false, laid := [("burrow/kernel.calls", laid_burrow_kernel_calls)], narrowed := true }
def ForksUptoSaid : Prop := forksUptoRow.holds Tryd.pinned (OpenSpec.upto forksSpec)

/-- 'burrowlaw.Sends', WHERE WHAT IT READS IS OF BULK AT MOST 1048576: true; the input reads as it did. -/
def sendsUptoRow : OpenClaim := { program := "ytcgabodkegcpgaadoor", sum := "dca16b17d7e5e7a77d48ef66570804163e05c113840f8e5b41d4c0119c44e7a7", func := "burrow/burrowlaw.Sends", spec := "sends", unfollowed := true, recurses := true, named := ["burrow/kernel.calls"], leaving := true, apart := false, laid := [("burrow/kernel.calls", laid_burrow_kernel_calls)], narrowed := true }
def SendsUptoSaid : Prop := sendsUptoRow.holds Tryd.pinned (OpenSpec.upto sendsSpec)

end Rows
end Go.Proofs.YtcgabodkegcpgaaDoor
