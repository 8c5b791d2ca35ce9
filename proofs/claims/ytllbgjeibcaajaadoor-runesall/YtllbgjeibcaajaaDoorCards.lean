/-
  DERIVED. GIVEN WITH THE SEED: THE CARDS: each row of YtllbgjeibcaajaaDoorRows.lean that lists a variable, with what it lists TIED to the program's text (the seventh form; the later family's looks); each row that meets fmt, with fmt's text TOLD by the authors' own Lean function (tested against real Go, not proved from fmt's source: count such statements apart). THE CARD IS WHAT COUNTS. Prove the row's statement (the work); the ties are given (YtllbgjeibcaajaaDoorTie.lean); close each card by the builder's one call (the guide's Derived/Test/ToyasCard.lean, 'card_holds'). Laid BY PROGRAM, IN A SANDBOX (cutbox-door.mjs). By AI agents, Wed Nov 11 2026. No macro, syntax, notation, axiom, sorry.
-/
import Derived.Test.YtllbgjeibcaajaaDoorRows
import GoSem.ClaimSeven
namespace Go.Proofs.YtllbgjeibcaajaaDoor
namespace Rows

/-- THE TIED CARD OF 'quadrillelaw5.RunesAll'. -/
def runesAllCard : Claim7 := { stood := { row := runesAllRow, standIns := [], harness := (true, "50fd1a863b6d54ab5a4d658763f75cb0f2cdd92f3983b97276a1ea0d717bfb57"), looks := false }, kinds := [], alts := [], laidByText := true, laidKinds := [.data, .pinned], laidTests := true, laidLooks := .later }
def RunesAllCardSaid : Prop := Claim7.holds Tryd.pinned (.plain (OpenSpec.ofChange runesAllSpec)) runesAllCard

/-- THE SECOND FORM's CARD OF 'quadrillelaw5.RunesAll'. -/
def runesAllUptoCard : Claim7 := { stood := { row := runesAllUptoRow, standIns := [], harness := (true, "50fd1a863b6d54ab5a4d658763f75cb0f2cdd92f3983b97276a1ea0d717bfb57"), looks := false }, kinds := [], alts := [], laidByText := true, laidKinds := [.data, .pinned], laidTests := true, laidLooks := .later }
def RunesAllUptoCardSaid : Prop := Claim7.holds Tryd.pinned (.plain (OpenSpec.upto runesAllSpec)) runesAllUptoCard
end Rows
end Go.Proofs.YtllbgjeibcaajaaDoor
