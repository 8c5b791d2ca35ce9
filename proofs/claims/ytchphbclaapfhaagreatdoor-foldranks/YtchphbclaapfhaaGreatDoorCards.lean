/-
  DERIVED. GIVEN WITH THE SEED: THE CARDS: each row of YtchphbclaapfhaaGreatDoorRows.lean that lists a variable, with what it lists TIED to the program's text (the seventh form; the later family's looks); each row that meets fmt, with fmt's text TOLD by the authors' own Lean function (tested against real Go, not proved from fmt's source: count such statements apart). THE CARD IS WHAT COUNTS. Prove the row's statement (the work); the ties are given (YtchphbclaapfhaaGreatDoorTie.lean); close each card by the builder's one call (the guide's Derived/Test/ToyasCard.lean, 'card_holds'). Laid BY PROGRAM, IN A SANDBOX (cutbox-door.mjs). By AI agents, Wed Nov 11 2026. No macro, syntax, notation, axiom, sorry.
-/
import Derived.Test.YtchphbclaapfhaaGreatDoorRows
import GoSem.ClaimSeven
namespace Go.Proofs.YtchphbclaapfhaaGreatDoor
namespace Rows

/-- THE TIED CARD OF 'quadrillelaw15.FoldFinds'. -/
def foldFindsCard : Claim7 := { stood := { row := foldFindsRow, standIns := [], harness := (true, "d21affe6c3e7d49fe9a6e8ae16a264e7bdbb893a88153f2bd0feba7a91e32923"), looks := false }, kinds := [], alts := [], laidByText := true, laidKinds := [.data, .data, .data], laidTests := true, laidLooks := .later }
def FoldFindsCardSaid : Prop := Claim7.holds Tryz.pinned (.plain (OpenSpec.ofChange foldFindsSpec)) foldFindsCard

/-- THE TIED CARD OF 'quadrillelaw15.FoldRanks'. -/
def foldRanksCard : Claim7 := { stood := { row := foldRanksRow, standIns := [], harness := (true, "d21affe6c3e7d49fe9a6e8ae16a264e7bdbb893a88153f2bd0feba7a91e32923"), looks := false }, kinds := [], alts := [], laidByText := true, laidKinds := [.data, .data, .data], laidTests := true, laidLooks := .later }
def FoldRanksCardSaid : Prop := Claim7.holds Tryz.pinned (.plain (OpenSpec.ofChange foldRanksSpec)) foldRanksCard

/-- THE TIED CARD OF 'quadrillelaw15.FoldIfs'. -/
def foldIfsCard : Claim7 := { stood := { row := foldIfsRow, standIns := [], harness := (true, "d21affe6c3e7d49fe9a6e8ae16a264e7bdbb893a88153f2bd0feba7a91e32923"), looks := false }, kinds := [], alts := [], laidByText := true, laidKinds := [.data, .data, .data], laidTests := true, laidLooks := .later }
def FoldIfsCardSaid : Prop := Claim7.holds Tryz.pinned (.plain (OpenSpec.ofChange foldIfsSpec)) foldIfsCard

/-- THE TIED CARD OF 'quadrillelaw15.FoldTruths'. -/
def foldTruthsCard : Claim7 := { stood := { row := foldTruthsRow, standIns := [], harness := (true, "d21affe6c3e7d49fe9a6e8ae16a264e7bdbb893a88153f2bd0feba7a91e32923"), looks := false }, kinds := [], alts := [], laidByText := true, laidKinds := [.data, .data, .data], laidTests := true, laidLooks := .later }
def FoldTruthsCardSaid : Prop := Claim7.holds Tryz.pinned (.plain (OpenSpec.ofChange foldTruthsSpec)) foldTruthsCard

/-- THE TIED CARD OF 'quadrillelaw15.FoldOrder'. -/
def foldOrderCard : Claim7 := { stood := { row := foldOrderRow, standIns := [], harness := (true, "d21affe6c3e7d49fe9a6e8ae16a264e7bdbb893a88153f2bd0feba7a91e32923"), looks := false }, kinds := [], alts := [], laidByText := true, laidKinds := [.data, .data, .data], laidTests := true, laidLooks := .later }
def FoldOrderCardSaid : Prop := Claim7.holds Tryz.pinned (.plain (OpenSpec.ofChange foldOrderSpec)) foldOrderCard

/-- THE SECOND FORM's CARD OF 'quadrillelaw15.FoldFinds'. -/
def foldFindsUptoCard : Claim7 := { stood := { row := foldFindsUptoRow, standIns := [], harness := (true, "d21affe6c3e7d49fe9a6e8ae16a264e7bdbb893a88153f2bd0feba7a91e32923"), looks := false }, kinds := [], alts := [], laidByText := true, laidKinds := [.data, .data, .data], laidTests := true, laidLooks := .later }
def FoldFindsUptoCardSaid : Prop := Claim7.holds Tryz.pinned (.plain (OpenSpec.upto foldFindsSpec)) foldFindsUptoCard

/-- THE SECOND FORM's CARD OF 'quadrillelaw15.FoldRanks'. -/
def foldRanksUptoCard : Claim7 := { stood := { row := foldRanksUptoRow, standIns := [], harness := (true, "d21affe6c3e7d49fe9a6e8ae16a264e7bdbb893a88153f2bd0feba7a91e32923"), looks := false }, kinds := [], alts := [], laidByText := true, laidKinds := [.data, .data, .data], laidTests := true, laidLooks := .later }
def FoldRanksUptoCardSaid : Prop := Claim7.holds Tryz.pinned (.plain (OpenSpec.upto foldRanksSpec)) foldRanksUptoCard

/-- THE SECOND FORM's CARD OF 'quadrillelaw15.FoldIfs'. -/
def foldIfsUptoCard : Claim7 := { stood := { row := foldIfsUptoRow, standIns := [], harness := (true, "d21affe6c3e7d49fe9a6e8ae16a264e7bdbb893a88153f2bd0feba7a91e32923"), looks := false }, kinds := [], alts := [], laidByText := true, laidKinds := [.data, .data, .data], laidTests := true, laidLooks := .later }
def FoldIfsUptoCardSaid : Prop := Claim7.holds Tryz.pinned (.plain (OpenSpec.upto foldIfsSpec)) foldIfsUptoCard

/-- THE SECOND FORM's CARD OF 'quadrillelaw15.FoldTruths'. -/
def foldTruthsUptoCard : Claim7 := { stood := { row := foldTruthsUptoRow, standIns := [], harness := (true, "d21affe6c3e7d49fe9a6e8ae16a264e7bdbb893a88153f2bd0feba7a91e32923"), looks := false }, kinds := [], alts := [], laidByText := true, laidKinds := [.data, .data, .data], laidTests := true, laidLooks := .later }
def FoldTruthsUptoCardSaid : Prop := Claim7.holds Tryz.pinned (.plain (OpenSpec.upto foldTruthsSpec)) foldTruthsUptoCard

/-- THE SECOND FORM's CARD OF 'quadrillelaw15.FoldOrder'. -/
def foldOrderUptoCard : Claim7 := { stood := { row := foldOrderUptoRow, standIns := [], harness := (true, "d21affe6c3e7d49fe9a6e8ae16a264e7bdbb893a88153f2bd0feba7a91e32923"), looks := false }, kinds := [], alts := [], laidByText := true, laidKinds := [.data, .data, .data], laidTests := true, laidLooks := .later }
def FoldOrderUptoCardSaid : Prop := Claim7.holds Tryz.pinned (.plain (OpenSpec.upto foldOrderSpec)) foldOrderUptoCard
end Rows
end Go.Proofs.YtchphbclaapfhaaGreatDoor
