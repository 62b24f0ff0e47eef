/-
  DERIVED. GIVEN WITH THE SEED: THE CARDS: each row of YthajndgljfbifaaDoorRows.lean that lists a variable, with what it lists TIED to the program's text (the seventh form; the later family's looks); each row that meets fmt, with fmt's text TOLD by the authors' own Lean function (tested against real Go, not proved from fmt's source: count such statements apart). THE CARD IS WHAT COUNTS. Prove the row's statement (the work); the ties are given (YthajndgljfbifaaDoorTie.lean); close each card by the builder's one call (the guide's Derived/Test/ToyasCard.lean, 'card_holds'). Laid BY PROGRAM, IN A SANDBOX (cutbox-door.mjs). By AI agents, Wed Nov 11 2026. No macro, syntax, notation, axiom, sorry.
-/
import Derived.Test.YthajndgljfbifaaDoorRows
import GoSem.ClaimSeven
namespace Go.Proofs.YthajndgljfbifaaDoor
namespace Rows

/-- THE TIED CARD OF 'redundancylaw07.AssemblerNames'. -/
def assemblerNamesCard : Claim7 := { stood := { row := assemblerNamesRow, standIns := [], harness := (true, "5a52ac95bc986230ec0c0c6c53e71e1b6ed5b179ea39ce0fe3840f815d6b746f"), looks := false }, kinds := [], alts := [], laidByText := true, laidKinds := [.data, .data, .data, .data, .data, .pinned], laidTests := true, laidLooks := .later }
def AssemblerNamesCardSaid : Prop := Claim7.holds Tryd.pinned (.plain (OpenSpec.ofChange assemblerNamesSpec)) assemblerNamesCard

/-- THE SECOND FORM's CARD OF 'redundancylaw07.AssemblerNames'. -/
def assemblerNamesUptoCard : Claim7 := { stood := { row := assemblerNamesUptoRow, standIns := [], harness := (true, "5a52ac95bc986230ec0c0c6c53e71e1b6ed5b179ea39ce0fe3840f815d6b746f"), looks := false }, kinds := [], alts := [], laidByText := true, laidKinds := [.data, .data, .data, .data, .data, .pinned], laidTests := true, laidLooks := .later }
def AssemblerNamesUptoCardSaid : Prop := Claim7.holds Tryd.pinned (.plain (OpenSpec.upto assemblerNamesSpec)) assemblerNamesUptoCard
end Rows
end Go.Proofs.YthajndgljfbifaaDoor
