/-
  DERIVED. GIVEN WITH THE SEED: THE CARDS: each row of YtmocelladioooaaDoorRows.lean that lists a variable, with what it lists TIED to the program's text (the seventh form; the later family's looks); each row that meets fmt, with fmt's text TOLD by the authors' own Lean function (tested against real Go, not proved from fmt's source: count such statements apart). THE CARD IS WHAT COUNTS. Prove the row's statement (the work); the ties are given (YtmocelladioooaaDoorTie.lean); close each card by the builder's one call (the guide's Derived/Test/ToyasCard.lean, 'card_holds'). Laid BY PROGRAM, IN A SANDBOX (cutbox-door.mjs). By AI agents, Wed Nov 11 2026. No macro, syntax, notation, axiom, sorry.
-/
import Derived.Test.YtmocelladioooaaDoorRows
import GoSem.ClaimSeven
namespace Go.Proofs.YtmocelladioooaaDoor
namespace Rows

/-- THE TIED CARD OF 'burrowlaw.Memory'. -/
def memoryCard : Claim7 := { stood := { row := memoryRow, standIns := [], harness := (true, "8e4573f28c6cca4ec4a9ea3ff150a26d9bf2ccf76f53a5e1dfd014749580bd75"), looks := false }, kinds := [], alts := [], laidByText := true, laidKinds := [.called], laidTests := true, laidLooks := .later }
def MemoryCardSaid : Prop := Claim7.holds Tryd.pinned (.plain (OpenSpec.ofChange memorySpec)) memoryCard

/-- THE TIED CARD OF 'burrowlaw.Passes'. -/
def passesCard : Claim7 := { stood := { row := passesRow, standIns := [], harness := (true, "8e4573f28c6cca4ec4a9ea3ff150a26d9bf2ccf76f53a5e1dfd014749580bd75"), looks := false }, kinds := [], alts := [], laidByText := true, laidKinds := [.called], laidTests := true, laidLooks := .later }
def PassesCardSaid : Prop := Claim7.holds Tryd.pinned (.plain (OpenSpec.ofChange passesSpec)) passesCard

/-- THE TIED CARD OF 'burrowlaw.Calls'. -/
def callsCard : Claim7 := { stood := { row := callsRow, standIns := [], harness := (true, "8e4573f28c6cca4ec4a9ea3ff150a26d9bf2ccf76f53a5e1dfd014749580bd75"), looks := false }, kinds := [], alts := [], laidByText := true, laidKinds := [.called], laidTests := true, laidLooks := .later }
def CallsCardSaid : Prop := Claim7.holds Tryd.pinned (.plain (OpenSpec.ofChange callsSpec)) callsCard

/-- THE TIED CARD OF 'burrowlaw.Refused'. -/
def refusedCard : Claim7 := { stood := { row := refusedRow, standIns := [], harness := (true, "8e4573f28c6cca4ec4a9ea3ff150a26d9bf2ccf76f53a5e1dfd014749580bd75"), looks := false }, kinds := [], alts := [], laidByText := true, laidKinds := [.called], laidTests := true, laidLooks := .later }
def RefusedCardSaid : Prop := Claim7.holds Tryd.pinned (.plain (OpenSpec.ofChange refusedSpec)) refusedCard

/-- THE SECOND FORM's CARD OF 'burrowlaw.Memory'. -/
def memoryUptoCard : Claim7 := { stood := { row := memoryUptoRow, standIns := [], harness := (true, "8e4573f28c6cca4ec4a9ea3ff150a26d9bf2ccf76f53a5e1dfd014749580bd75"), looks := false }, kinds := [], alts := [], laidByText := true, laidKinds := [.called], laidTests := true, laidLooks := .later }
def MemoryUptoCardSaid : Prop := Claim7.holds Tryd.pinned (.plain (OpenSpec.upto memorySpec)) memoryUptoCard

/-- THE SECOND FORM's CARD OF 'burrowlaw.Passes'. -/
def passesUptoCard : Claim7 := { stood := { row := passesUptoRow, standIns := [], harness := (true, "8e4573f28c6cca4ec4a9ea3ff150a26d9bf2ccf76f53a5e1dfd014749580bd75"), looks := false }, kinds := [], alts := [], laidByText := true, laidKinds := [.called], laidTests := true, laidLooks := .later }
def PassesUptoCardSaid : Prop := Claim7.holds Tryd.pinned (.plain (OpenSpec.upto passesSpec)) passesUptoCard

/-- THE SECOND FORM's CARD OF 'burrowlaw.Calls'. -/
def callsUptoCard : Claim7 := { stood := { row := callsUptoRow, standIns := [], harness := (true, "8e4573f28c6cca4ec4a9ea3ff150a26d9bf2ccf76f53a5e1dfd014749580bd75"), looks := false }, kinds := [], alts := [], laidByText := true, laidKinds := [.called], laidTests := true, laidLooks := .later }
def CallsUptoCardSaid : Prop := Claim7.holds Tryd.pinned (.plain (OpenSpec.upto callsSpec)) callsUptoCard

/-- THE SECOND FORM's CARD OF 'burrowlaw.Refused'. -/
def refusedUptoCard : Claim7 := { stood := { row := refusedUptoRow, standIns := [], harness := (true, "8e4573f28c6cca4ec4a9ea3ff150a26d9bf2ccf76f53a5e1dfd014749580bd75"), looks := false }, kinds := [], alts := [], laidByText := true, laidKinds := [.called], laidTests := true, laidLooks := .later }
def RefusedUptoCardSaid : Prop := Claim7.holds Tryd.pinned (.plain (OpenSpec.upto refusedSpec)) refusedUptoCard
end Rows
end Go.Proofs.YtmocelladioooaaDoor
