/-
  DERIVED. GIVEN WITH THE SEED: THE CARDS: each row of YtjhfjpofmkofhaaDoorRows.lean that lists a variable, with what it lists TIED to the program's text (the seventh form; the later family's looks); each row that meets fmt, with fmt's text TOLD by the authors' own Lean function (tested against real Go, not proved from fmt's source: count such statements apart). THE CARD IS WHAT COUNTS. Prove the row's statement (the work); the ties are given (YtjhfjpofmkofhaaDoorTie.lean); close each card by the builder's one call (the guide's Derived/Test/ToyasCard.lean, 'card_holds'). Laid BY PROGRAM, IN A SANDBOX (cutbox-door.mjs). By AI agents, Wed Nov 11 2026. No macro, syntax, notation, axiom, sorry.
-/
import Derived.Test.YtjhfjpofmkofhaaDoorRows
import GoSem.ClaimSeven
namespace Go.Proofs.YtjhfjpofmkofhaaDoor
namespace Rows

/-- THE TIED CARD OF 'quadrillelaw2.SpotAll'. -/
def spotAllCard : Claim7 := { stood := { row := spotAllRow, standIns := [], harness := (true, "0236b1c1615493065273768db54c86f16b6cbd15cc49663b8564e9eccb64dd2b"), looks := false }, kinds := [], alts := [], laidByText := true, laidKinds := [.data, .data, .data], laidTests := true, laidLooks := .later }
def SpotAllCardSaid : Prop := Claim7.holds Tryd.pinned (.plain (OpenSpec.ofChange spotAllSpec)) spotAllCard

/-- THE TIED CARD OF 'quadrillelaw2.SpotThere'. -/
def spotThereCard : Claim7 := { stood := { row := spotThereRow, standIns := [], harness := (true, "0236b1c1615493065273768db54c86f16b6cbd15cc49663b8564e9eccb64dd2b"), looks := false }, kinds := [], alts := [], laidByText := true, laidKinds := [.data, .data, .data], laidTests := true, laidLooks := .later }
def SpotThereCardSaid : Prop := Claim7.holds Tryd.pinned (.plain (OpenSpec.ofChange spotThereSpec)) spotThereCard

/-- THE TIED CARD OF 'quadrillelaw2.SpotBegins'. -/
def spotBeginsCard : Claim7 := { stood := { row := spotBeginsRow, standIns := [], harness := (true, "0236b1c1615493065273768db54c86f16b6cbd15cc49663b8564e9eccb64dd2b"), looks := false }, kinds := [], alts := [], laidByText := true, laidKinds := [.data, .data, .data], laidTests := true, laidLooks := .later }
def SpotBeginsCardSaid : Prop := Claim7.holds Tryd.pinned (.plain (OpenSpec.ofChange spotBeginsSpec)) spotBeginsCard

/-- THE TIED CARD OF 'quadrillelaw2.SpotAreas'. -/
def spotAreasCard : Claim7 := { stood := { row := spotAreasRow, standIns := [], harness := (true, "0236b1c1615493065273768db54c86f16b6cbd15cc49663b8564e9eccb64dd2b"), looks := false }, kinds := [], alts := [], laidByText := true, laidKinds := [.data, .data, .data], laidTests := true, laidLooks := .later }
def SpotAreasCardSaid : Prop := Claim7.holds Tryd.pinned (.plain (OpenSpec.ofChange spotAreasSpec)) spotAreasCard

/-- THE TIED CARD OF 'quadrillelaw2.SpotOrder'. -/
def spotOrderCard : Claim7 := { stood := { row := spotOrderRow, standIns := [], harness := (true, "0236b1c1615493065273768db54c86f16b6cbd15cc49663b8564e9eccb64dd2b"), looks := false }, kinds := [], alts := [], laidByText := true, laidKinds := [.data, .data, .data], laidTests := true, laidLooks := .later }
def SpotOrderCardSaid : Prop := Claim7.holds Tryd.pinned (.plain (OpenSpec.ofChange spotOrderSpec)) spotOrderCard

/-- THE SECOND FORM's CARD OF 'quadrillelaw2.SpotAll'. -/
def spotAllUptoCard : Claim7 := { stood := { row := spotAllUptoRow, standIns := [], harness := (true, "0236b1c1615493065273768db54c86f16b6cbd15cc49663b8564e9eccb64dd2b"), looks := false }, kinds := [], alts := [], laidByText := true, laidKinds := [.data, .data, .data], laidTests := true, laidLooks := .later }
def SpotAllUptoCardSaid : Prop := Claim7.holds Tryd.pinned (.plain (OpenSpec.upto spotAllSpec)) spotAllUptoCard

/-- THE SECOND FORM's CARD OF 'quadrillelaw2.SpotThere'. -/
def spotThereUptoCard : Claim7 := { stood := { row := spotThereUptoRow, standIns := [], harness := (true, "0236b1c1615493065273768db54c86f16b6cbd15cc49663b8564e9eccb64dd2b"), looks := false }, kinds := [], alts := [], laidByText := true, laidKinds := [.data, .data, .data], laidTests := true, laidLooks := .later }
def SpotThereUptoCardSaid : Prop := Claim7.holds Tryd.pinned (.plain (OpenSpec.upto spotThereSpec)) spotThereUptoCard

/-- THE SECOND FORM's CARD OF 'quadrillelaw2.SpotBegins'. -/
def spotBeginsUptoCard : Claim7 := { stood := { row := spotBeginsUptoRow, standIns := [], harness := (true, "0236b1c1615493065273768db54c86f16b6cbd15cc49663b8564e9eccb64dd2b"), looks := false }, kinds := [], alts := [], laidByText := true, laidKinds := [.data, .data, .data], laidTests := true, laidLooks := .later }
def SpotBeginsUptoCardSaid : Prop := Claim7.holds Tryd.pinned (.plain (OpenSpec.upto spotBeginsSpec)) spotBeginsUptoCard

/-- THE SECOND FORM's CARD OF 'quadrillelaw2.SpotAreas'. -/
def spotAreasUptoCard : Claim7 := { stood := { row := spotAreasUptoRow, standIns := [], harness := (true, "0236b1c1615493065273768db54c86f16b6cbd15cc49663b8564e9eccb64dd2b"), looks := false }, kinds := [], alts := [], laidByText := true, laidKinds := [.data, .data, .data], laidTests := true, laidLooks := .later }
def SpotAreasUptoCardSaid : Prop := Claim7.holds Tryd.pinned (.plain (OpenSpec.upto spotAreasSpec)) spotAreasUptoCard

/-- THE SECOND FORM's CARD OF 'quadrillelaw2.SpotOrder'. -/
def spotOrderUptoCard : Claim7 := { stood := { row := spotOrderUptoRow, standIns := [], harness := (true, "0236b1c1615493065273768db54c86f16b6cbd15cc49663b8564e9eccb64dd2b"), looks := false }, kinds := [], alts := [], laidByText := true, laidKinds := [.data, .data, .data], laidTests := true, laidLooks := .later }
def SpotOrderUptoCardSaid : Prop := Claim7.holds Tryd.pinned (.plain (OpenSpec.upto spotOrderSpec)) spotOrderUptoCard
end Rows
end Go.Proofs.YtjhfjpofmkofhaaDoor
