/-
  DERIVED. GIVEN WITH THE SEED: THE CARDS: each row of YtnpdkojhlgchlaaGreatDoorRows.lean that lists a variable, with what it lists TIED to the program's text (the seventh form; the later family's looks); each row that meets fmt, with fmt's text TOLD by the authors' own Lean function (tested against real Go, not proved from fmt's source: count such statements apart). THE CARD IS WHAT COUNTS. Prove the row's statement (the work); the ties are given (YtnpdkojhlgchlaaGreatDoorTie.lean); close each card by the builder's one call (the guide's Derived/Test/ToyasCard.lean, 'card_holds'). Laid BY PROGRAM, IN A SANDBOX (cutbox-door.mjs). By AI agents, Wed Nov 11 2026. No macro, syntax, notation, axiom, sorry.
-/
import Derived.Test.YtnpdkojhlgchlaaGreatDoorRows
import GoSem.ClaimSeven
namespace Go.Proofs.YtnpdkojhlgchlaaGreatDoor
namespace Rows

/-- THE TIED CARD OF 'quadrillelaw15.FoldAll'. -/
def foldAllCard : Claim7 := { stood := { row := foldAllRow, standIns := [], harness := (true, "e2bf6d26dad8f17f17ee67afbf17902910afc183cb8908dbe468f2113e8e9234"), looks := false }, kinds := [], alts := [], laidByText := true, laidKinds := [.data, .data, .data], laidTests := true, laidLooks := .later }
def FoldAllCardSaid : Prop := Claim7.holds Tryz.pinned (.plain (OpenSpec.ofChange foldAllSpec)) foldAllCard

/-- THE TIED CARD OF 'quadrillelaw15.FoldIfs'. -/
def foldIfsCard : Claim7 := { stood := { row := foldIfsRow, standIns := [], harness := (true, "e2bf6d26dad8f17f17ee67afbf17902910afc183cb8908dbe468f2113e8e9234"), looks := false }, kinds := [], alts := [], laidByText := true, laidKinds := [.data, .data, .data], laidTests := true, laidLooks := .later }
def FoldIfsCardSaid : Prop := Claim7.holds Tryz.pinned (.plain (OpenSpec.ofChange foldIfsSpec)) foldIfsCard

/-- THE SECOND FORM's CARD OF 'quadrillelaw15.FoldAll'. -/
def foldAllUptoCard : Claim7 := { stood := { row := foldAllUptoRow, standIns := [], harness := (true, "e2bf6d26dad8f17f17ee67afbf17902910afc183cb8908dbe468f2113e8e9234"), looks := false }, kinds := [], alts := [], laidByText := true, laidKinds := [.data, .data, .data], laidTests := true, laidLooks := .later }
def FoldAllUptoCardSaid : Prop := Claim7.holds Tryz.pinned (.plain (OpenSpec.upto foldAllSpec)) foldAllUptoCard

/-- THE SECOND FORM's CARD OF 'quadrillelaw15.FoldIfs'. -/
def foldIfsUptoCard : Claim7 := { stood := { row := foldIfsUptoRow, standIns := [], harness := (true, "e2bf6d26dad8f17f17ee67afbf17902910afc183cb8908dbe468f2113e8e9234"), looks := false }, kinds := [], alts := [], laidByText := true, laidKinds := [.data, .data, .data], laidTests := true, laidLooks := .later }
def FoldIfsUptoCardSaid : Prop := Claim7.holds Tryz.pinned (.plain (OpenSpec.upto foldIfsSpec)) foldIfsUptoCard
end Rows
end Go.Proofs.YtnpdkojhlgchlaaGreatDoor
