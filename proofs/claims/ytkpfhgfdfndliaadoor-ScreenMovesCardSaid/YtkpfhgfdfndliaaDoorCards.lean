/-
  DERIVED. GIVEN WITH THE SEED: THE CARDS: each row of YtkpfhgfdfndliaaDoorRows.lean that lists a variable, with what it lists TIED to the program's text (the seventh form; the later family's looks); each row that meets fmt, with fmt's text TOLD by the authors' own Lean function (tested against real Go, not proved from fmt's source: count such statements apart). THE CARD IS WHAT COUNTS. Prove the row's statement (the work); the ties are given (YtkpfhgfdfndliaaDoorTie.lean); close each card by the builder's one call (the guide's Derived/Test/ToyasCard.lean, 'card_holds'). Laid BY PROGRAM, IN A SANDBOX (cutbox-door.mjs). By AI agents, Wed Nov 11 2026. No macro, syntax, notation, axiom, sorry.
-/
import Derived.Test.YtkpfhgfdfndliaaDoorRows
import GoSem.ClaimSeven
namespace Go.Proofs.YtkpfhgfdfndliaaDoor
namespace Rows

/-- THE TIED CARD OF 'vizardlaw09.ScreenCursor'. -/
def screenCursorCard : Claim7 := { stood := { row := screenCursorRow, standIns := [], harness := (true, "e2982db311144dd8dcd20b3c1350b43a2915ad87a96ea05549f48da986bbd37b"), looks := true }, kinds := [], alts := [], laidByText := true, laidKinds := [.data], laidTests := true, laidLooks := .later }
def ScreenCursorCardSaid : Prop := Claim7.holds Tryd.pinned (.plain (OpenSpec.ofChange screenCursorSpec)) screenCursorCard

/-- THE TIED CARD OF 'vizardlaw09.ScreenGuards'. -/
def screenGuardsCard : Claim7 := { stood := { row := screenGuardsRow, standIns := [], harness := (true, "e2982db311144dd8dcd20b3c1350b43a2915ad87a96ea05549f48da986bbd37b"), looks := true }, kinds := [], alts := [], laidByText := true, laidKinds := [.data], laidTests := true, laidLooks := .later }
def ScreenGuardsCardSaid : Prop := Claim7.holds Tryd.pinned (.plain (OpenSpec.ofChange screenGuardsSpec)) screenGuardsCard

/-- THE TIED CARD OF 'vizardlaw09.ScreenMoves'. -/
def screenMovesCard : Claim7 := { stood := { row := screenMovesRow, standIns := [], harness := (true, "e2982db311144dd8dcd20b3c1350b43a2915ad87a96ea05549f48da986bbd37b"), looks := true }, kinds := [], alts := [], laidByText := true, laidKinds := [.data], laidTests := true, laidLooks := .later }
def ScreenMovesCardSaid : Prop := Claim7.holds Tryd.pinned (.plain (OpenSpec.ofChange screenMovesSpec)) screenMovesCard

/-- THE SECOND FORM's CARD OF 'vizardlaw09.ScreenCursor'. -/
def screenCursorUptoCard : Claim7 := { stood := { row := screenCursorUptoRow, standIns := [], harness := (true, "e2982db311144dd8dcd20b3c1350b43a2915ad87a96ea05549f48da986bbd37b"), looks := true }, kinds := [], alts := [], laidByText := true, laidKinds := [.data], laidTests := true, laidLooks := .later }
def ScreenCursorUptoCardSaid : Prop := Claim7.holds Tryd.pinned (.plain (OpenSpec.upto screenCursorSpec)) screenCursorUptoCard

/-- THE SECOND FORM's CARD OF 'vizardlaw09.ScreenGuards'. -/
def screenGuardsUptoCard : Claim7 := { stood := { row := screenGuardsUptoRow, standIns := [], harness := (true, "e2982db311144dd8dcd20b3c1350b43a2915ad87a96ea05549f48da986bbd37b"), looks := true }, kinds := [], alts := [], laidByText := true, laidKinds := [.data], laidTests := true, laidLooks := .later }
def ScreenGuardsUptoCardSaid : Prop := Claim7.holds Tryd.pinned (.plain (OpenSpec.upto screenGuardsSpec)) screenGuardsUptoCard

/-- THE SECOND FORM's CARD OF 'vizardlaw09.ScreenMoves'. -/
def screenMovesUptoCard : Claim7 := { stood := { row := screenMovesUptoRow, standIns := [], harness := (true, "e2982db311144dd8dcd20b3c1350b43a2915ad87a96ea05549f48da986bbd37b"), looks := true }, kinds := [], alts := [], laidByText := true, laidKinds := [.data], laidTests := true, laidLooks := .later }
def ScreenMovesUptoCardSaid : Prop := Claim7.holds Tryd.pinned (.plain (OpenSpec.upto screenMovesSpec)) screenMovesUptoCard
end Rows
end Go.Proofs.YtkpfhgfdfndliaaDoor
