/-
  DERIVED. GIVEN WITH THE SEED: THE CARDS: each row of YtoedgailgejafaaDoorRows.lean that lists a variable, with what it lists TIED to the program's text (the seventh form; the later family's looks); each row that meets fmt, with fmt's text TOLD by the authors' own Lean function (tested against real Go, not proved from fmt's source: count such statements apart). THE CARD IS WHAT COUNTS. Prove the row's statement (the work); the ties are given (YtoedgailgejafaaDoorTie.lean); close each card by the builder's one call (the guide's Derived/Test/ToyasCard.lean, 'card_holds'). Laid BY PROGRAM, IN A SANDBOX (cutbox-door.mjs). By AI agents, Wed Nov 11 2026. No macro, syntax, notation, axiom, sorry.
-/
import Derived.Test.YtoedgailgejafaaDoorRows
import GoSem.ClaimSeven
namespace Go.Proofs.YtoedgailgejafaaDoor
namespace Rows

/-- THE TIED CARD OF 'quadrillelaw1.NumAll'. -/
def numAllCard : Claim7 := { stood := { row := numAllRow, standIns := [], harness := (true, "d5b9b82d9563eed44985b0f3bfbd42d92c51a26013d70905e3fea1c9c52a622e"), looks := false }, kinds := [], alts := [], laidByText := true, laidKinds := [.data, .data, .data], laidTests := true, laidLooks := .later }
def NumAllCardSaid : Prop := Claim7.holds Tryd.pinned (.plain (OpenSpec.ofChange numAllSpec)) numAllCard

/-- THE TIED CARD OF 'quadrillelaw1.NumSmall'. -/
def numSmallCard : Claim7 := { stood := { row := numSmallRow, standIns := [], harness := (true, "d5b9b82d9563eed44985b0f3bfbd42d92c51a26013d70905e3fea1c9c52a622e"), looks := false }, kinds := [], alts := [], laidByText := true, laidKinds := [.data, .data, .data], laidTests := true, laidLooks := .later }
def NumSmallCardSaid : Prop := Claim7.holds Tryd.pinned (.plain (OpenSpec.ofChange numSmallSpec)) numSmallCard

/-- THE TIED CARD OF 'quadrillelaw1.NumNamed'. -/
def numNamedCard : Claim7 := { stood := { row := numNamedRow, standIns := [], harness := (true, "d5b9b82d9563eed44985b0f3bfbd42d92c51a26013d70905e3fea1c9c52a622e"), looks := false }, kinds := [], alts := [], laidByText := true, laidKinds := [.data, .data, .data], laidTests := true, laidLooks := .later }
def NumNamedCardSaid : Prop := Claim7.holds Tryd.pinned (.plain (OpenSpec.ofChange numNamedSpec)) numNamedCard

/-- THE TIED CARD OF 'quadrillelaw1.NumDivides'. -/
def numDividesCard : Claim7 := { stood := { row := numDividesRow, standIns := [], harness := (true, "d5b9b82d9563eed44985b0f3bfbd42d92c51a26013d70905e3fea1c9c52a622e"), looks := false }, kinds := [], alts := [], laidByText := true, laidKinds := [.data, .data, .data], laidTests := true, laidLooks := .later }
def NumDividesCardSaid : Prop := Claim7.holds Tryd.pinned (.plain (OpenSpec.ofChange numDividesSpec)) numDividesCard

/-- THE TIED CARD OF 'quadrillelaw1.NumText'. -/
def numTextCard : Claim7 := { stood := { row := numTextRow, standIns := [], harness := (true, "d5b9b82d9563eed44985b0f3bfbd42d92c51a26013d70905e3fea1c9c52a622e"), looks := false }, kinds := [], alts := [], laidByText := true, laidKinds := [.data, .data, .data], laidTests := true, laidLooks := .later }
def NumTextCardSaid : Prop := Claim7.holds Tryd.pinned (.plain (OpenSpec.ofChange numTextSpec)) numTextCard

/-- THE TIED CARD OF 'quadrillelaw1.NumCommon'. -/
def numCommonCard : Claim7 := { stood := { row := numCommonRow, standIns := [], harness := (true, "d5b9b82d9563eed44985b0f3bfbd42d92c51a26013d70905e3fea1c9c52a622e"), looks := false }, kinds := [], alts := [], laidByText := true, laidKinds := [.data, .data, .data], laidTests := true, laidLooks := .later }
def NumCommonCardSaid : Prop := Claim7.holds Tryd.pinned (.plain (OpenSpec.ofChange numCommonSpec)) numCommonCard

/-- THE SECOND FORM's CARD OF 'quadrillelaw1.NumAll'. -/
def numAllUptoCard : Claim7 := { stood := { row := numAllUptoRow, standIns := [], harness := (true, "d5b9b82d9563eed44985b0f3bfbd42d92c51a26013d70905e3fea1c9c52a622e"), looks := false }, kinds := [], alts := [], laidByText := true, laidKinds := [.data, .data, .data], laidTests := true, laidLooks := .later }
def NumAllUptoCardSaid : Prop := Claim7.holds Tryd.pinned (.plain (OpenSpec.upto numAllSpec)) numAllUptoCard

/-- THE SECOND FORM's CARD OF 'quadrillelaw1.NumSmall'. -/
def numSmallUptoCard : Claim7 := { stood := { row := numSmallUptoRow, standIns := [], harness := (true, "d5b9b82d9563eed44985b0f3bfbd42d92c51a26013d70905e3fea1c9c52a622e"), looks := false }, kinds := [], alts := [], laidByText := true, laidKinds := [.data, .data, .data], laidTests := true, laidLooks := .later }
def NumSmallUptoCardSaid : Prop := Claim7.holds Tryd.pinned (.plain (OpenSpec.upto numSmallSpec)) numSmallUptoCard

/-- THE SECOND FORM's CARD OF 'quadrillelaw1.NumNamed'. -/
def numNamedUptoCard : Claim7 := { stood := { row := numNamedUptoRow, standIns := [], harness := (true, "d5b9b82d9563eed44985b0f3bfbd42d92c51a26013d70905e3fea1c9c52a622e"), looks := false }, kinds := [], alts := [], laidByText := true, laidKinds := [.data, .data, .data], laidTests := true, laidLooks := .later }
def NumNamedUptoCardSaid : Prop := Claim7.holds Tryd.pinned (.plain (OpenSpec.upto numNamedSpec)) numNamedUptoCard

/-- THE SECOND FORM's CARD OF 'quadrillelaw1.NumDivides'. -/
def numDividesUptoCard : Claim7 := { stood := { row := numDividesUptoRow, standIns := [], harness := (true, "d5b9b82d9563eed44985b0f3bfbd42d92c51a26013d70905e3fea1c9c52a622e"), looks := false }, kinds := [], alts := [], laidByText := true, laidKinds := [.data, .data, .data], laidTests := true, laidLooks := .later }
def NumDividesUptoCardSaid : Prop := Claim7.holds Tryd.pinned (.plain (OpenSpec.upto numDividesSpec)) numDividesUptoCard

/-- THE SECOND FORM's CARD OF 'quadrillelaw1.NumText'. -/
def numTextUptoCard : Claim7 := { stood := { row := numTextUptoRow, standIns := [], harness := (true, "d5b9b82d9563eed44985b0f3bfbd42d92c51a26013d70905e3fea1c9c52a622e"), looks := false }, kinds := [], alts := [], laidByText := true, laidKinds := [.data, .data, .data], laidTests := true, laidLooks := .later }
def NumTextUptoCardSaid : Prop := Claim7.holds Tryd.pinned (.plain (OpenSpec.upto numTextSpec)) numTextUptoCard

/-- THE SECOND FORM's CARD OF 'quadrillelaw1.NumCommon'. -/
def numCommonUptoCard : Claim7 := { stood := { row := numCommonUptoRow, standIns := [], harness := (true, "d5b9b82d9563eed44985b0f3bfbd42d92c51a26013d70905e3fea1c9c52a622e"), looks := false }, kinds := [], alts := [], laidByText := true, laidKinds := [.data, .data, .data], laidTests := true, laidLooks := .later }
def NumCommonUptoCardSaid : Prop := Claim7.holds Tryd.pinned (.plain (OpenSpec.upto numCommonSpec)) numCommonUptoCard
end Rows
end Go.Proofs.YtoedgailgejafaaDoor
