/-
  DERIVED. GIVEN WITH THE SEED: THE CARDS: each row of YtcgabodkegcpgaaGreatDoorRows.lean that lists a variable, with what it lists TIED to the program's text (the seventh form; the later family's looks); each row that meets fmt, with fmt's text TOLD by the authors' own Lean function (tested against real Go, not proved from fmt's source: count such statements apart). THE CARD IS WHAT COUNTS. Prove the row's statement (the work); the ties are given (YtcgabodkegcpgaaGreatDoorTie.lean); close each card by the builder's one call (the guide's Derived/Test/ToyasCard.lean, 'card_holds'). Laid BY PROGRAM, IN A SANDBOX (cutbox-door.mjs). By AI agents, Wed Nov 11 2026. No macro, syntax, notation, axiom, sorry.
-/
import Derived.Test.YtcgabodkegcpgaaGreatDoorRows
import GoSem.ClaimSeven
namespace Go.Proofs.YtcgabodkegcpgaaGreatDoor
namespace Rows

/-- THE TIED CARD OF 'burrowlaw.Memory'. -/
def memoryCard : Claim7 := { stood := { row := memoryRow, standIns := [], harness := (true, "5ee4fdc1aa23c500fbdc482879a62316a45dab61a674f0a40a0f4d32b26d25f3"), looks := true }, kinds := [], alts := [], goes := true, laidByText := true, laidKinds := [.called], laidTests := true, laidLooks := .later }
def MemoryCardSaid : Prop := Claim7.holds Tryz.pinned (.plain (OpenSpec.ofChange memorySpec)) memoryCard

/-- THE TIED CARD OF 'burrowlaw.Calls'. -/
def callsCard : Claim7 := { stood := { row := callsRow, standIns := [], harness := (true, "5ee4fdc1aa23c500fbdc482879a62316a45dab61a674f0a40a0f4d32b26d25f3"), looks := true }, kinds := [], alts := [], goes := true, laidByText := true, laidKinds := [.called], laidTests := true, laidLooks := .later }
def CallsCardSaid : Prop := Claim7.holds Tryz.pinned (.plain (OpenSpec.ofChange callsSpec)) callsCard

/-- THE TIED CARD OF 'burrowlaw.Libs'. -/
def libsCard : Claim7 := { stood := { row := libsRow, standIns := [], harness := (true, "5ee4fdc1aa23c500fbdc482879a62316a45dab61a674f0a40a0f4d32b26d25f3"), looks := true }, kinds := [], alts := [], goes := true, laidByText := true, laidKinds := [.called], laidTests := true, laidLooks := .later }
def LibsCardSaid : Prop := Claim7.holds Tryz.pinned (.plain (OpenSpec.ofChange libsSpec)) libsCard

/-- THE TIED CARD OF 'burrowlaw.Apart'. -/
def apartCard : Claim7 := { stood := { row := apartRow, standIns := [], harness := (true, "5ee4fdc1aa23c500fbdc482879a62316a45dab61a674f0a40a0f4d32b26d25f3"), looks := true }, kinds := [], alts := [], goes := true, laidByText := true, laidKinds := [.called], laidTests := true, laidLooks := .later }
def ApartCardSaid : Prop := Claim7.holds Tryz.pinned (.plain (OpenSpec.ofChange apartSpec)) apartCard

/-- THE SECOND FORM's CARD OF 'burrowlaw.Memory'. -/
def memoryUptoCard : Claim7 := { stood := { row := memoryUptoRow, standIns := [], harness := (true, "5ee4fdc1aa23c500fbdc482879a62316a45dab61a674f0a40a0f4d32b26d25f3"), looks := true }, kinds := [], alts := [], goes := true, laidByText := true, laidKinds := [.called], laidTests := true, laidLooks := .later }
def MemoryUptoCardSaid : Prop := Claim7.holds Tryz.pinned (.plain (OpenSpec.upto memorySpec)) memoryUptoCard

/-- THE SECOND FORM's CARD OF 'burrowlaw.Calls'. -/
def callsUptoCard : Claim7 := { stood := { row := callsUptoRow, standIns := [], harness := (true, "5ee4fdc1aa23c500fbdc482879a62316a45dab61a674f0a40a0f4d32b26d25f3"), looks := true }, kinds := [], alts := [], goes := true, laidByText := true, laidKinds := [.called], laidTests := true, laidLooks := .later }
def CallsUptoCardSaid : Prop := Claim7.holds Tryz.pinned (.plain (OpenSpec.upto callsSpec)) callsUptoCard

/-- THE SECOND FORM's CARD OF 'burrowlaw.Libs'. -/
def libsUptoCard : Claim7 := { stood := { row := libsUptoRow, standIns := [], harness := (true, "5ee4fdc1aa23c500fbdc482879a62316a45dab61a674f0a40a0f4d32b26d25f3"), looks := true }, kinds := [], alts := [], goes := true, laidByText := true, laidKinds := [.called], laidTests := true, laidLooks := .later }
def LibsUptoCardSaid : Prop := Claim7.holds Tryz.pinned (.plain (OpenSpec.upto libsSpec)) libsUptoCard

/-- THE SECOND FORM's CARD OF 'burrowlaw.Apart'. -/
def apartUptoCard : Claim7 := { stood := { row := apartUptoRow, standIns := [], harness := (true, "5ee4fdc1aa23c500fbdc482879a62316a45dab61a674f0a40a0f4d32b26d25f3"), looks := true }, kinds := [], alts := [], goes := true, laidByText := true, laidKinds := [.called], laidTests := true, laidLooks := .later }
def ApartUptoCardSaid : Prop := Claim7.holds Tryz.pinned (.plain (OpenSpec.upto apartSpec)) apartUptoCard
end Rows
end Go.Proofs.YtcgabodkegcpgaaGreatDoor
