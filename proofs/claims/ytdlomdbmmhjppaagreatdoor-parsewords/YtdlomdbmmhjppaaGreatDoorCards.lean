/-
  DERIVED. GIVEN WITH THE SEED: THE CARDS: each row of YtdlomdbmmhjppaaGreatDoorRows.lean that lists a variable, with what it lists TIED to the program's text (the seventh form; the later family's looks); each row that meets fmt, with fmt's text TOLD by the authors' own Lean function (tested against real Go, not proved from fmt's source: count such statements apart). THE CARD IS WHAT COUNTS. Prove the row's statement (the work); the ties are given (YtdlomdbmmhjppaaGreatDoorTie.lean); close each card by the builder's one call (the guide's Derived/Test/ToyasCard.lean, 'card_holds'). Laid BY PROGRAM, IN A SANDBOX (cutbox-door.mjs). By AI agents, Wed Nov 11 2026. No macro, syntax, notation, axiom, sorry.
-/
import Derived.Test.YtdlomdbmmhjppaaGreatDoorRows
import GoSem.ClaimSeven
namespace Go.Proofs.YtdlomdbmmhjppaaGreatDoor
namespace Rows

/-- THE TIED CARD OF 'quadrillelaw10.ParseAll'. -/
def parseAllCard : Claim7 := { stood := { row := parseAllRow, standIns := [], harness := (true, "132b303375617f27306f31beb49ab7d2ba914c2b46269a902ffa06f243abb5d3"), looks := true }, kinds := [], alts := [], laidByText := true, laidKinds := [.data, .data, .data, .data, .sentinel, .sentinel, .data, .pinned, .pinned], laidTests := true, laidLooks := .later }
def ParseAllCardSaid : Prop := Claim7.holds Tryz.pinned (.plain (OpenSpec.ofChange parseAllSpec)) parseAllCard

/-- THE TIED CARD OF 'quadrillelaw10.ParseJoined'. -/
def parseJoinedCard : Claim7 := { stood := { row := parseJoinedRow, standIns := [], harness := (true, "132b303375617f27306f31beb49ab7d2ba914c2b46269a902ffa06f243abb5d3"), looks := true }, kinds := [], alts := [], laidByText := true, laidKinds := [.data, .data, .data, .data, .sentinel, .sentinel, .data, .pinned, .pinned], laidTests := true, laidLooks := .later }
def ParseJoinedCardSaid : Prop := Claim7.holds Tryz.pinned (.plain (OpenSpec.ofChange parseJoinedSpec)) parseJoinedCard

/-- THE TIED CARD OF 'quadrillelaw10.ParseWords'. -/
def parseWordsCard : Claim7 := { stood := { row := parseWordsRow, standIns := [], harness := (true, "132b303375617f27306f31beb49ab7d2ba914c2b46269a902ffa06f243abb5d3"), looks := true }, kinds := [], alts := [], laidByText := true, laidKinds := [.data, .data, .data, .data, .sentinel, .sentinel, .data, .pinned, .pinned], laidTests := true, laidLooks := .later }
def ParseWordsCardSaid : Prop := Claim7.holds Tryz.pinned (.plain (OpenSpec.ofChange parseWordsSpec)) parseWordsCard

/-- THE TIED CARD OF 'quadrillelaw10.ParseFresh'. -/
def parseFreshCard : Claim7 := { stood := { row := parseFreshRow, standIns := [], harness := (true, "132b303375617f27306f31beb49ab7d2ba914c2b46269a902ffa06f243abb5d3"), looks := true }, kinds := [], alts := [], laidByText := true, laidKinds := [.data, .data, .data, .data, .sentinel, .sentinel, .data, .pinned, .pinned], laidTests := true, laidLooks := .later }
def ParseFreshCardSaid : Prop := Claim7.holds Tryz.pinned (.plain (OpenSpec.ofChange parseFreshSpec)) parseFreshCard

/-- THE TIED CARD OF 'quadrillelaw11.PrintBack'. -/
def printBackCard : Claim7 := { stood := { row := printBackRow, standIns := [], harness := (true, "132b303375617f27306f31beb49ab7d2ba914c2b46269a902ffa06f243abb5d3"), looks := true }, kinds := [], alts := [], laidByText := true, laidKinds := [.data, .data, .data, .data, .sentinel, .sentinel, .data, .data, .pinned, .pinned], laidTests := true, laidLooks := .later }
def PrintBackCardSaid : Prop := Claim7.holds Tryz.pinned (.plain (OpenSpec.ofChange printBackSpec)) printBackCard

/-- THE TIED CARD OF 'quadrillelaw11.PrintFew'. -/
def printFewCard : Claim7 := { stood := { row := printFewRow, standIns := [], harness := (true, "132b303375617f27306f31beb49ab7d2ba914c2b46269a902ffa06f243abb5d3"), looks := true }, kinds := [], alts := [], laidByText := true, laidKinds := [.data, .data, .data, .data, .sentinel, .sentinel, .data, .data, .pinned, .pinned], laidTests := true, laidLooks := .later }
def PrintFewCardSaid : Prop := Claim7.holds Tryz.pinned (.plain (OpenSpec.ofChange printFewSpec)) printFewCard

/-- THE SECOND FORM's CARD OF 'quadrillelaw10.ParseAll'. -/
def parseAllUptoCard : Claim7 := { stood := { row := parseAllUptoRow, standIns := [], harness := (true, "132b303375617f27306f31beb49ab7d2ba914c2b46269a902ffa06f243abb5d3"), looks := true }, kinds := [], alts := [], laidByText := true, laidKinds := [.data, .data, .data, .data, .sentinel, .sentinel, .data, .pinned, .pinned], laidTests := true, laidLooks := .later }
def ParseAllUptoCardSaid : Prop := Claim7.holds Tryz.pinned (.plain (OpenSpec.upto parseAllSpec)) parseAllUptoCard

/-- THE SECOND FORM's CARD OF 'quadrillelaw10.ParseJoined'. -/
def parseJoinedUptoCard : Claim7 := { stood := { row := parseJoinedUptoRow, standIns := [], harness := (true, "132b303375617f27306f31beb49ab7d2ba914c2b46269a902ffa06f243abb5d3"), looks := true }, kinds := [], alts := [], laidByText := true, laidKinds := [.data, .data, .data, .data, .sentinel, .sentinel, .data, .pinned, .pinned], laidTests := true, laidLooks := .later }
def ParseJoinedUptoCardSaid : Prop := Claim7.holds Tryz.pinned (.plain (OpenSpec.upto parseJoinedSpec)) parseJoinedUptoCard

/-- THE SECOND FORM's CARD OF 'quadrillelaw10.ParseWords'. -/
def parseWordsUptoCard : Claim7 := { stood := { row := parseWordsUptoRow, standIns := [], harness := (true, "132b303375617f27306f31beb49ab7d2ba914c2b46269a902ffa06f243abb5d3"), looks := true }, kinds := [], alts := [], laidByText := true, laidKinds := [.data, .data, .data, .data, .sentinel, .sentinel, .data, .pinned, .pinned], laidTests := true, laidLooks := .later }
def ParseWordsUptoCardSaid : Prop := Claim7.holds Tryz.pinned (.plain (OpenSpec.upto parseWordsSpec)) parseWordsUptoCard

/-- THE SECOND FORM's CARD OF 'quadrillelaw10.ParseFresh'. -/
def parseFreshUptoCard : Claim7 := { stood := { row := parseFreshUptoRow, standIns := [], harness := (true, "132b303375617f27306f31beb49ab7d2ba914c2b46269a902ffa06f243abb5d3"), looks := true }, kinds := [], alts := [], laidByText := true, laidKinds := [.data, .data, .data, .data, .sentinel, .sentinel, .data, .pinned, .pinned], laidTests := true, laidLooks := .later }
def ParseFreshUptoCardSaid : Prop := Claim7.holds Tryz.pinned (.plain (OpenSpec.upto parseFreshSpec)) parseFreshUptoCard

/-- THE SECOND FORM's CARD OF 'quadrillelaw11.PrintBack'. -/
def printBackUptoCard : Claim7 := { stood := { row := printBackUptoRow, standIns := [], harness := (true, "132b303375617f27306f31beb49ab7d2ba914c2b46269a902ffa06f243abb5d3"), looks := true }, kinds := [], alts := [], laidByText := true, laidKinds := [.data, .data, .data, .data, .sentinel, .sentinel, .data, .data, .pinned, .pinned], laidTests := true, laidLooks := .later }
def PrintBackUptoCardSaid : Prop := Claim7.holds Tryz.pinned (.plain (OpenSpec.upto printBackSpec)) printBackUptoCard

/-- THE SECOND FORM's CARD OF 'quadrillelaw11.PrintFew'. -/
def printFewUptoCard : Claim7 := { stood := { row := printFewUptoRow, standIns := [], harness := (true, "132b303375617f27306f31beb49ab7d2ba914c2b46269a902ffa06f243abb5d3"), looks := true }, kinds := [], alts := [], laidByText := true, laidKinds := [.data, .data, .data, .data, .sentinel, .sentinel, .data, .data, .pinned, .pinned], laidTests := true, laidLooks := .later }
def PrintFewUptoCardSaid : Prop := Claim7.holds Tryz.pinned (.plain (OpenSpec.upto printFewSpec)) printFewUptoCard
end Rows
end Go.Proofs.YtdlomdbmmhjppaaGreatDoor
