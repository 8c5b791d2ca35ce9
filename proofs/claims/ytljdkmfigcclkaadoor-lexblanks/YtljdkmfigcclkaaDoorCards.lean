/-
  DERIVED. GIVEN WITH THE SEED: THE CARDS: each row of YtljdkmfigcclkaaDoorRows.lean that lists a variable, with what it lists TIED to the program's text (the seventh form; the later family's looks); each row that meets fmt, with fmt's text TOLD by the authors' own Lean function (tested against real Go, not proved from fmt's source: count such statements apart). THE CARD IS WHAT COUNTS. Prove the row's statement (the work); the ties are given (YtljdkmfigcclkaaDoorTie.lean); close each card by the builder's one call (the guide's Derived/Test/ToyasCard.lean, 'card_holds'). Laid BY PROGRAM, IN A SANDBOX (cutbox-door.mjs). By AI agents, Wed Nov 11 2026. No macro, syntax, notation, axiom, sorry.
-/
import Derived.Test.YtljdkmfigcclkaaDoorRows
import GoSem.ClaimSeven
namespace Go.Proofs.YtljdkmfigcclkaaDoor
namespace Rows

/-- THE TIED CARD OF 'quadrillelaw8.LexAll'. -/
def lexAllCard : Claim7 := { stood := { row := lexAllRow, standIns := [], harness := (true, "932e2e264d36a1ec20027862504159cf4f3845afa60e5c3f009d2074fd8e07cb"), looks := false }, kinds := [], alts := [], laidByText := true, laidKinds := [.data, .data, .pinned, .pinned], laidTests := true, laidLooks := .later }
def LexAllCardSaid : Prop := Claim7.holds Tryd.pinned (.plain (OpenSpec.ofChange lexAllSpec)) lexAllCard

/-- THE TIED CARD OF 'quadrillelaw8.LexBlanks'. -/
def lexBlanksCard : Claim7 := { stood := { row := lexBlanksRow, standIns := [], harness := (true, "932e2e264d36a1ec20027862504159cf4f3845afa60e5c3f009d2074fd8e07cb"), looks := false }, kinds := [], alts := [], laidByText := true, laidKinds := [.data, .data, .pinned, .pinned], laidTests := true, laidLooks := .later }
def LexBlanksCardSaid : Prop := Claim7.holds Tryd.pinned (.plain (OpenSpec.ofChange lexBlanksSpec)) lexBlanksCard

/-- THE TIED CARD OF 'quadrillelaw8.LexPlaces'. -/
def lexPlacesCard : Claim7 := { stood := { row := lexPlacesRow, standIns := [], harness := (true, "932e2e264d36a1ec20027862504159cf4f3845afa60e5c3f009d2074fd8e07cb"), looks := false }, kinds := [], alts := [], laidByText := true, laidKinds := [.data, .data, .pinned, .pinned], laidTests := true, laidLooks := .later }
def LexPlacesCardSaid : Prop := Claim7.holds Tryd.pinned (.plain (OpenSpec.ofChange lexPlacesSpec)) lexPlacesCard

/-- THE TIED CARD OF 'quadrillelaw8.LexFresh'. -/
def lexFreshCard : Claim7 := { stood := { row := lexFreshRow, standIns := [], harness := (true, "932e2e264d36a1ec20027862504159cf4f3845afa60e5c3f009d2074fd8e07cb"), looks := false }, kinds := [], alts := [], laidByText := true, laidKinds := [.data, .data, .pinned, .pinned], laidTests := true, laidLooks := .later }
def LexFreshCardSaid : Prop := Claim7.holds Tryd.pinned (.plain (OpenSpec.ofChange lexFreshSpec)) lexFreshCard

/-- THE SECOND FORM's CARD OF 'quadrillelaw8.LexAll'. -/
def lexAllUptoCard : Claim7 := { stood := { row := lexAllUptoRow, standIns := [], harness := (true, "932e2e264d36a1ec20027862504159cf4f3845afa60e5c3f009d2074fd8e07cb"), looks := false }, kinds := [], alts := [], laidByText := true, laidKinds := [.data, .data, .pinned, .pinned], laidTests := true, laidLooks := .later }
def LexAllUptoCardSaid : Prop := Claim7.holds Tryd.pinned (.plain (OpenSpec.upto lexAllSpec)) lexAllUptoCard

/-- THE SECOND FORM's CARD OF 'quadrillelaw8.LexBlanks'. -/
def lexBlanksUptoCard : Claim7 := { stood := { row := lexBlanksUptoRow, standIns := [], harness := (true, "932e2e264d36a1ec20027862504159cf4f3845afa60e5c3f009d2074fd8e07cb"), looks := false }, kinds := [], alts := [], laidByText := true, laidKinds := [.data, .data, .pinned, .pinned], laidTests := true, laidLooks := .later }
def LexBlanksUptoCardSaid : Prop := Claim7.holds Tryd.pinned (.plain (OpenSpec.upto lexBlanksSpec)) lexBlanksUptoCard

/-- THE SECOND FORM's CARD OF 'quadrillelaw8.LexPlaces'. -/
def lexPlacesUptoCard : Claim7 := { stood := { row := lexPlacesUptoRow, standIns := [], harness := (true, "932e2e264d36a1ec20027862504159cf4f3845afa60e5c3f009d2074fd8e07cb"), looks := false }, kinds := [], alts := [], laidByText := true, laidKinds := [.data, .data, .pinned, .pinned], laidTests := true, laidLooks := .later }
def LexPlacesUptoCardSaid : Prop := Claim7.holds Tryd.pinned (.plain (OpenSpec.upto lexPlacesSpec)) lexPlacesUptoCard

/-- THE SECOND FORM's CARD OF 'quadrillelaw8.LexFresh'. -/
def lexFreshUptoCard : Claim7 := { stood := { row := lexFreshUptoRow, standIns := [], harness := (true, "932e2e264d36a1ec20027862504159cf4f3845afa60e5c3f009d2074fd8e07cb"), looks := false }, kinds := [], alts := [], laidByText := true, laidKinds := [.data, .data, .pinned, .pinned], laidTests := true, laidLooks := .later }
def LexFreshUptoCardSaid : Prop := Claim7.holds Tryd.pinned (.plain (OpenSpec.upto lexFreshSpec)) lexFreshUptoCard
end Rows
end Go.Proofs.YtljdkmfigcclkaaDoor
