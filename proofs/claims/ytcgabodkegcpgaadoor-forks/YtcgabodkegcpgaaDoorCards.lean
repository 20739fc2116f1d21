/-
  DERIVED. GIVEN WITH THE SEED: THE CARDS: each row of YtcgabodkegcpgaaDoorRows.lean that lists a variable, with what it lists TIED to the program's text (the seventh form; the later family's looks); each row that meets fmt, with fmt's text TOLD by the authors' own Lean function (tested against real Go, not proved from fmt's source: count such statements apart). THE CARD IS WHAT COUNTS. Prove the row's statement (the work); the ties are given (YtcgabodkegcpgaaDoorTie.lean); close each card by the builder's one call (the guide's Derived/Test/ToyasCard.lean, 'card_holds'). Laid BY PROGRAM, IN A SANDBOX (cutbox-door.mjs). By AI agents, Wed Nov 11 2026. No macro, syntax, notation, axiom, sorry.
-/
import Derived.Test.YtcgabodkegcpgaaDoorRows
import GoSem.ClaimSeven
namespace Go.Proofs.YtcgabodkegcpgaaDoor
namespace Rows

/-- THE TIED CARD OF 'burrowlaw.Passes'. -/
def passesCard : Claim7 := { stood := { row := passesRow, standIns := [], harness := (true, "a0138749406ae9e7760e91f4827e512b037ec7d42e53530546b954673851a0cc"), looks := true }, kinds := [], alts := [], laidByText := true, laidKinds := [.called], laidTests := true, laidLooks := .later }
def PassesCardSaid : Prop := Claim7.holds Tryd.pinned (.plain (OpenSpec.ofChange passesSpec)) passesCard

/-- THE TIED CARD OF 'burrowlaw.Refused'. -/
def refusedCard : Claim7 := { stood := { row := refusedRow, standIns := [], harness := (true, "a0138749406ae9e7760e91f4827e512b037ec7d42e53530546b954673851a0cc"), looks := true }, kinds := [], alts := [], laidByText := true, laidKinds := [.called], laidTests := true, laidLooks := .later }
def RefusedCardSaid : Prop := Claim7.holds Tryd.pinned (.plain (OpenSpec.ofChange refusedSpec)) refusedCard

/-- THE TIED CARD OF 'burrowlaw.Books'. -/
def booksCard : Claim7 := { stood := { row := booksRow, standIns := [], harness := (true, "a0138749406ae9e7760e91f4827e512b037ec7d42e53530546b954673851a0cc"), looks := true }, kinds := [], alts := [], goes := true, laidByText := true, laidKinds := [.called], laidTests := true, laidLooks := .later }
def BooksCardSaid : Prop := Claim7.holds Tryd.pinned (.plain (OpenSpec.ofChange booksSpec)) booksCard

/-- THE TIED CARD OF 'burrowlaw.Cancels'. -/
def cancelsCard : Claim7 := { stood := { row := cancelsRow, standIns := [], harness := (true, "a0138749406ae9e7760e91f4827e512b037ec7d42e53530546b954673851a0cc"), looks := true }, kinds := [], alts := [], goes := true, laidByText := true, laidKinds := [.called], laidTests := true, laidLooks := .later }
def CancelsCardSaid : Prop := Claim7.holds Tryd.pinned (.plain (OpenSpec.ofChange cancelsSpec)) cancelsCard

/-- THE TIED CARD OF 'burrowlaw.Forks'. -/
def forksCard : Claim7 := { stood := { row := forksRow, standIns := [], harness := (true, "a0138749406ae9e7760e91f4827e512b037ec7d42e53530546b954673851a0cc"), looks := true }, kinds := [], alts := [], goes := true, laidByText := true, laidKinds := [.called], laidTests := true, laidLooks := .later }
def ForksCardSaid : Prop := Claim7.holds Tryd.pinned (.plain (OpenSpec.ofChange forksSpec)) forksCard

/-- THE TIED CARD OF 'burrowlaw.Sends'. -/
def sendsCard : Claim7 := { stood := { row := sendsRow, standIns := [], harness := (true, "a0138749406ae9e7760e91f4827e512b037ec7d42e53530546b954673851a0cc"), looks := true }, kinds := [], alts := [], goes := true, laidByText := true, laidKinds := [.called], laidTests := true, laidLooks := .later }
def SendsCardSaid : Prop := Claim7.holds Tryd.pinned (.plain (OpenSpec.ofChange sendsSpec)) sendsCard

/-- THE SECOND FORM's CARD OF 'burrowlaw.Passes'. -/
def passesUptoCard : Claim7 := { stood := { row := passesUptoRow, standIns := [], harness := (true, "a0138749406ae9e7760e91f4827e512b037ec7d42e53530546b954673851a0cc"), looks := true }, kinds := [], alts := [], laidByText := true, laidKinds := [.called], laidTests := true, laidLooks := .later }
def PassesUptoCardSaid : Prop := Claim7.holds Tryd.pinned (.plain (OpenSpec.upto passesSpec)) passesUptoCard

/-- THE SECOND FORM's CARD OF 'burrowlaw.Refused'. -/
def refusedUptoCard : Claim7 := { stood := { row := refusedUptoRow, standIns := [], harness := (true, "a0138749406ae9e7760e91f4827e512b037ec7d42e53530546b954673851a0cc"), looks := true }, kinds := [], alts := [], laidByText := true, laidKinds := [.called], laidTests := true, laidLooks := .later }
def RefusedUptoCardSaid : Prop := Claim7.holds Tryd.pinned (.plain (OpenSpec.upto refusedSpec)) refusedUptoCard

/-- THE SECOND FORM's CARD OF 'burrowlaw.Books'. -/
def booksUptoCard : Claim7 := { stood := { row := booksUptoRow, standIns := [], harness := (true, "a0138749406ae9e7760e91f4827e512b037ec7d42e53530546b954673851a0cc"), looks := true }, kinds := [], alts := [], goes := true, laidByText := true, laidKinds := [.called], laidTests := true, laidLooks := .later }
def BooksUptoCardSaid : Prop := Claim7.holds Tryd.pinned (.plain (OpenSpec.upto booksSpec)) booksUptoCard

/-- THE SECOND FORM's CARD OF 'burrowlaw.Cancels'. -/
def cancelsUptoCard : Claim7 := { stood := { row := cancelsUptoRow, standIns := [], harness := (true, "a0138749406ae9e7760e91f4827e512b037ec7d42e53530546b954673851a0cc"), looks := true }, kinds := [], alts := [], goes := true, laidByText := true, laidKinds := [.called], laidTests := true, laidLooks := .later }
def CancelsUptoCardSaid : Prop := Claim7.holds Tryd.pinned (.plain (OpenSpec.upto cancelsSpec)) cancelsUptoCard

/-- THE SECOND FORM's CARD OF 'burrowlaw.Forks'. -/
def forksUptoCard : Claim7 := { stood := { row := forksUptoRow, standIns := [], harness := (true, "a0138749406ae9e7760e91f4827e512b037ec7d42e53530546b954673851a0cc"), looks := true }, kinds := [], alts := [], goes := true, laidByText := true, laidKinds := [.called], laidTests := true, laidLooks := .later }
def ForksUptoCardSaid : Prop := Claim7.holds Tryd.pinned (.plain (OpenSpec.upto forksSpec)) forksUptoCard

/-- THE SECOND FORM's CARD OF 'burrowlaw.Sends'. -/
def sendsUptoCard : Claim7 := { stood := { row := sendsUptoRow, standIns := [], harness := (true, "a0138749406ae9e7760e91f4827e512b037ec7d42e53530546b954673851a0cc"), looks := true }, kinds := [], alts := [], goes := true, laidByText := true, laidKinds := [.called], laidTests := true, laidLooks := .later }
def SendsUptoCardSaid : Prop := Claim7.holds Tryd.pinned (.plain (OpenSpec.upto sendsSpec)) sendsUptoCard
end Rows
end Go.Proofs.YtcgabodkegcpgaaDoor
