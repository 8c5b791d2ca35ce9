/-
  DERIVED. GIVEN WITH THE SEED: THE CARDS: each row of YtgnmkhjilecdhaaGreatDoorRows.lean that lists a variable, with what it lists TIED to the program's text (the seventh form; the later family's looks); each row that meets fmt, with fmt's text TOLD by the authors' own Lean function (tested against real Go, not proved from fmt's source: count such statements apart). THE CARD IS WHAT COUNTS. Prove the row's statement (the work); the ties are given (YtgnmkhjilecdhaaGreatDoorTie.lean); close each card by the builder's one call (the guide's Derived/Test/ToyasCard.lean, 'card_holds'). Laid BY PROGRAM, IN A SANDBOX (cutbox-door.mjs). By AI agents, Wed Nov 11 2026. No macro, syntax, notation, axiom, sorry.
-/
import Derived.Test.YtgnmkhjilecdhaaGreatDoorRows
import GoSem.ClaimSeven
namespace Go.Proofs.YtgnmkhjilecdhaaGreatDoor
namespace Rows

/-- THE TIED CARD OF 'quadrillelaw14.CalcErrors'. -/
def calcErrorsCard : Claim7 := { stood := { row := calcErrorsRow, standIns := [], harness := (true, "c11b6d985cc9c4bfdc7b1518e97d8d57f1920f55a3c5b61ef2fe7ece8f6cb6b0"), looks := false }, kinds := [], alts := [], laidByText := true, laidKinds := [.data, .data, .data, .data, .pinned], laidTests := true, laidLooks := .later }
def CalcErrorsCardSaid : Prop := Claim7.holds Tryz.pinned (.plain (OpenSpec.ofChange calcErrorsSpec)) calcErrorsCard

/-- THE SECOND FORM's CARD OF 'quadrillelaw14.CalcErrors'. -/
def calcErrorsUptoCard : Claim7 := { stood := { row := calcErrorsUptoRow, standIns := [], harness := (true, "c11b6d985cc9c4bfdc7b1518e97d8d57f1920f55a3c5b61ef2fe7ece8f6cb6b0"), looks := false }, kinds := [], alts := [], laidByText := true, laidKinds := [.data, .data, .data, .data, .pinned], laidTests := true, laidLooks := .later }
def CalcErrorsUptoCardSaid : Prop := Claim7.holds Tryz.pinned (.plain (OpenSpec.upto calcErrorsSpec)) calcErrorsUptoCard
end Rows
end Go.Proofs.YtgnmkhjilecdhaaGreatDoor
