/-
  DERIVED. GIVEN WITH THE SEED: THE CARDS: each row of YtnfoknifofglbaaDoorRows.lean that lists a variable, with what it lists TIED to the program's text (the seventh form; the later family's looks); each row that meets fmt, with fmt's text TOLD by the authors' own Lean function (tested against real Go, not proved from fmt's source: count such statements apart). THE CARD IS WHAT COUNTS. Prove the row's statement (the work); the ties are given (YtnfoknifofglbaaDoorTie.lean); close each card by the builder's one call (the guide's Derived/Test/ToyasCard.lean, 'card_holds'). Laid BY PROGRAM, IN A SANDBOX (cutbox-door.mjs). By AI agents, Wed Nov 11 2026. No macro, syntax, notation, axiom, sorry.
-/
import Derived.Test.YtnfoknifofglbaaDoorRows
import GoSem.ClaimSeven
namespace Go.Proofs.YtnfoknifofglbaaDoor
namespace Rows

/-- THE TIED CARD OF 'quadrillelaw11.PrintKids'. -/
def printKidsCard : Claim7 := { stood := { row := printKidsRow, standIns := [], harness := (true, "39d79a5740ec603ffc7c5cb28549ffcf1f6c7b10325372c4b558a17fead04f88"), looks := false }, kinds := [], alts := [], laidByText := true, laidKinds := [.data, .data, .data, .data, .data, .pinned], laidTests := true, laidLooks := .later }
def PrintKidsCardSaid : Prop := Claim7.holds Tryd.pinned (.plain (OpenSpec.ofChange printKidsSpec)) printKidsCard

/-- THE TIED CARD OF 'quadrillelaw11.PrintAll'. -/
def printAllCard : Claim7 := { stood := { row := printAllRow, standIns := [], harness := (true, "39d79a5740ec603ffc7c5cb28549ffcf1f6c7b10325372c4b558a17fead04f88"), looks := false }, kinds := [], alts := [], laidByText := true, laidKinds := [.data, .data, .data, .data, .data, .pinned], laidTests := true, laidLooks := .later }
def PrintAllCardSaid : Prop := Claim7.holds Tryd.pinned (.plain (OpenSpec.ofChange printAllSpec)) printAllCard

/-- THE TIED CARD OF 'quadrillelaw11.PrintUnlike'. -/
def printUnlikeCard : Claim7 := { stood := { row := printUnlikeRow, standIns := [], harness := (true, "39d79a5740ec603ffc7c5cb28549ffcf1f6c7b10325372c4b558a17fead04f88"), looks := false }, kinds := [], alts := [], laidByText := true, laidKinds := [.data, .data, .data, .data, .data, .pinned], laidTests := true, laidLooks := .later }
def PrintUnlikeCardSaid : Prop := Claim7.holds Tryd.pinned (.plain (OpenSpec.ofChange printUnlikeSpec)) printUnlikeCard

/-- THE SECOND FORM's CARD OF 'quadrillelaw11.PrintKids'. -/
def printKidsUptoCard : Claim7 := { stood := { row := printKidsUptoRow, standIns := [], harness := (true, "39d79a5740ec603ffc7c5cb28549ffcf1f6c7b10325372c4b558a17fead04f88"), looks := false }, kinds := [], alts := [], laidByText := true, laidKinds := [.data, .data, .data, .data, .data, .pinned], laidTests := true, laidLooks := .later }
def PrintKidsUptoCardSaid : Prop := Claim7.holds Tryd.pinned (.plain (OpenSpec.upto printKidsSpec)) printKidsUptoCard

/-- THE SECOND FORM's CARD OF 'quadrillelaw11.PrintAll'. -/
def printAllUptoCard : Claim7 := { stood := { row := printAllUptoRow, standIns := [], harness := (true, "39d79a5740ec603ffc7c5cb28549ffcf1f6c7b10325372c4b558a17fead04f88"), looks := false }, kinds := [], alts := [], laidByText := true, laidKinds := [.data, .data, .data, .data, .data, .pinned], laidTests := true, laidLooks := .later }
def PrintAllUptoCardSaid : Prop := Claim7.holds Tryd.pinned (.plain (OpenSpec.upto printAllSpec)) printAllUptoCard

/-- THE SECOND FORM's CARD OF 'quadrillelaw11.PrintUnlike'. -/
def printUnlikeUptoCard : Claim7 := { stood := { row := printUnlikeUptoRow, standIns := [], harness := (true, "39d79a5740ec603ffc7c5cb28549ffcf1f6c7b10325372c4b558a17fead04f88"), looks := false }, kinds := [], alts := [], laidByText := true, laidKinds := [.data, .data, .data, .data, .data, .pinned], laidTests := true, laidLooks := .later }
def PrintUnlikeUptoCardSaid : Prop := Claim7.holds Tryd.pinned (.plain (OpenSpec.upto printUnlikeSpec)) printUnlikeUptoCard
end Rows
end Go.Proofs.YtnfoknifofglbaaDoor
