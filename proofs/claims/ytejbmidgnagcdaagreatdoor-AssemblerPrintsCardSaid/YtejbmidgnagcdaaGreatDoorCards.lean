/-
  DERIVED. GIVEN WITH THE SEED: THE CARDS: each row of YtejbmidgnagcdaaGreatDoorRows.lean that lists a variable, with what it lists TIED to the program's text (the seventh form; the later family's looks); each row that meets fmt, with fmt's text TOLD by the authors' own Lean function (tested against real Go, not proved from fmt's source: count such statements apart). THE CARD IS WHAT COUNTS. Prove the row's statement (the work); the ties are given (YtejbmidgnagcdaaGreatDoorTie.lean); close each card by the builder's one call (the guide's Derived/Test/ToyasCard.lean, 'card_holds'). Laid BY PROGRAM, IN A SANDBOX (cutbox-door.mjs). By AI agents, Wed Nov 11 2026. No macro, syntax, notation, axiom, sorry.
-/
import Derived.Test.YtejbmidgnagcdaaGreatDoorRows
import GoSem.ClaimSeven
namespace Go.Proofs.YtejbmidgnagcdaaGreatDoor
namespace Rows

/-- THE TIED CARD OF 'redundancylaw07.AssemblerPrints'. -/
def assemblerPrintsCard : Claim7 := { stood := { row := assemblerPrintsRow, standIns := [], harness := (true, "81f99373db232870aea428baba1299531641b1120c27f75781d55434b2cfcfa6"), looks := false }, kinds := [], alts := [], laidByText := true, laidKinds := [.data, .data, .data, .data, .data, .pinned], laidTests := true, laidLooks := .later }
def AssemblerPrintsCardSaid : Prop := Claim7.holds Tryz.pinned (.plain (OpenSpec.ofChange assemblerPrintsSpec)) assemblerPrintsCard

/-- THE TIED CARD OF 'redundancylaw07.AssemblerReads'. -/
def assemblerReadsCard : Claim7 := { stood := { row := assemblerReadsRow, standIns := [], harness := (true, "81f99373db232870aea428baba1299531641b1120c27f75781d55434b2cfcfa6"), looks := false }, kinds := [], alts := [], laidByText := true, laidKinds := [.data, .data, .data, .data, .data, .pinned], laidTests := true, laidLooks := .later }
def AssemblerReadsCardSaid : Prop := Claim7.holds Tryz.pinned (.plain (OpenSpec.ofChange assemblerReadsSpec)) assemblerReadsCard

/-- THE SECOND FORM's CARD OF 'redundancylaw07.AssemblerPrints'. -/
def assemblerPrintsUptoCard : Claim7 := { stood := { row := assemblerPrintsUptoRow, standIns := [], harness := (true, "81f99373db232870aea428baba1299531641b1120c27f75781d55434b2cfcfa6"), looks := false }, kinds := [], alts := [], laidByText := true, laidKinds := [.data, .data, .data, .data, .data, .pinned], laidTests := true, laidLooks := .later }
def AssemblerPrintsUptoCardSaid : Prop := Claim7.holds Tryz.pinned (.plain (OpenSpec.upto assemblerPrintsSpec)) assemblerPrintsUptoCard

/-- THE SECOND FORM's CARD OF 'redundancylaw07.AssemblerReads'. -/
def assemblerReadsUptoCard : Claim7 := { stood := { row := assemblerReadsUptoRow, standIns := [], harness := (true, "81f99373db232870aea428baba1299531641b1120c27f75781d55434b2cfcfa6"), looks := false }, kinds := [], alts := [], laidByText := true, laidKinds := [.data, .data, .data, .data, .data, .pinned], laidTests := true, laidLooks := .later }
def AssemblerReadsUptoCardSaid : Prop := Claim7.holds Tryz.pinned (.plain (OpenSpec.upto assemblerReadsSpec)) assemblerReadsUptoCard
end Rows
end Go.Proofs.YtejbmidgnagcdaaGreatDoor
