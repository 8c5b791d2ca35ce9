/-
  DERIVED. GIVEN WITH THE SEED: THE CARDS: each row of YtjmdhfopokmhcaaGreatDoorRows.lean that lists a variable, with what it lists TIED to the program's text (the seventh form; the later family's looks); each row that meets fmt, with fmt's text TOLD by the authors' own Lean function (tested against real Go, not proved from fmt's source: count such statements apart). THE CARD IS WHAT COUNTS. Prove the row's statement (the work); the ties are given (YtjmdhfopokmhcaaGreatDoorTie.lean); close each card by the builder's one call (the guide's Derived/Test/ToyasCard.lean, 'card_holds'). Laid BY PROGRAM, IN A SANDBOX (cutbox-door.mjs). By AI agents, Wed Nov 11 2026. No macro, syntax, notation, axiom, sorry.
-/
import Derived.Test.YtjmdhfopokmhcaaGreatDoorRows
import GoSem.ClaimSeven
namespace Go.Proofs.YtjmdhfopokmhcaaGreatDoor
namespace Rows

/-- THE TIED CARD OF 'quadrillelaw14.CalcErrors'. -/
def calcErrorsCard : Claim7 := { stood := { row := calcErrorsRow, standIns := [], harness := (true, "ec56468eba9b280a9e6c23123de13928ec225dc43f2699166ed89c319c1446b5"), looks := false }, kinds := [], alts := [], laidByText := true, laidKinds := [.data, .data, .data, .data, .pinned], laidTests := true, laidLooks := .later }
def CalcErrorsCardSaid : Prop := Claim7.holds Tryz.pinned (.plain (OpenSpec.ofChange calcErrorsSpec)) calcErrorsCard

/-- THE TIED CARD OF 'quadrillelaw14.CalcTexts'. -/
def calcTextsCard : Claim7 := { stood := { row := calcTextsRow, standIns := [], harness := (true, "ec56468eba9b280a9e6c23123de13928ec225dc43f2699166ed89c319c1446b5"), looks := false }, kinds := [], alts := [], laidByText := true, laidKinds := [.data, .data, .data, .data, .pinned], laidTests := true, laidLooks := .later }
def CalcTextsCardSaid : Prop := Claim7.holds Tryz.pinned (.plain (OpenSpec.ofChange calcTextsSpec)) calcTextsCard

/-- THE SECOND FORM's CARD OF 'quadrillelaw14.CalcErrors'. -/
def calcErrorsUptoCard : Claim7 := { stood := { row := calcErrorsUptoRow, standIns := [], harness := (true, "ec56468eba9b280a9e6c23123de13928ec225dc43f2699166ed89c319c1446b5"), looks := false }, kinds := [], alts := [], laidByText := true, laidKinds := [.data, .data, .data, .data, .pinned], laidTests := true, laidLooks := .later }
def CalcErrorsUptoCardSaid : Prop := Claim7.holds Tryz.pinned (.plain (OpenSpec.upto calcErrorsSpec)) calcErrorsUptoCard

/-- THE SECOND FORM's CARD OF 'quadrillelaw14.CalcTexts'. -/
def calcTextsUptoCard : Claim7 := { stood := { row := calcTextsUptoRow, standIns := [], harness := (true, "ec56468eba9b280a9e6c23123de13928ec225dc43f2699166ed89c319c1446b5"), looks := false }, kinds := [], alts := [], laidByText := true, laidKinds := [.data, .data, .data, .data, .pinned], laidTests := true, laidLooks := .later }
def CalcTextsUptoCardSaid : Prop := Claim7.holds Tryz.pinned (.plain (OpenSpec.upto calcTextsSpec)) calcTextsUptoCard
end Rows
end Go.Proofs.YtjmdhfopokmhcaaGreatDoor
