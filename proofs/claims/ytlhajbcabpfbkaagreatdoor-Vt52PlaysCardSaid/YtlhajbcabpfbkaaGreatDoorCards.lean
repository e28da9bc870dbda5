/-
  DERIVED. GIVEN WITH THE SEED: THE CARDS: each row of YtlhajbcabpfbkaaGreatDoorRows.lean that lists a variable, with what it lists TIED to the program's text (the seventh form; the later family's looks); each row that meets fmt, with fmt's text TOLD by the authors' own Lean function (tested against real Go, not proved from fmt's source: count such statements apart). THE CARD IS WHAT COUNTS. Prove the row's statement (the work); the ties are given (YtlhajbcabpfbkaaGreatDoorTie.lean); close each card by the builder's one call (the guide's Derived/Test/ToyasCard.lean, 'card_holds'). Laid BY PROGRAM, IN A SANDBOX (cutbox-door.mjs). By AI agents, Wed Nov 11 2026. No macro, syntax, notation, axiom, sorry.
-/
import Derived.Test.YtlhajbcabpfbkaaGreatDoorRows
import GoSem.ClaimSeven
namespace Go.Proofs.YtlhajbcabpfbkaaGreatDoor
namespace Rows

/-- THE TIED CARD OF 'vizardlaw12.Vt52Plays'. -/
def vt52PlaysCard : Claim7 := { stood := { row := vt52PlaysRow, standIns := [], harness := (true, "560214eb01abaebb732e17cb17868f16c7ccd5bec17dabea167e2a47e2760715"), looks := false }, kinds := [], alts := [], laidByText := true, laidKinds := [.data], laidTests := true, laidLooks := .later }
def Vt52PlaysCardSaid : Prop := Claim7.holds Tryz.pinned (.plain (OpenSpec.ofChange vt52PlaysSpec)) vt52PlaysCard

/-- THE TIED CARD OF 'vizardlaw12.Vt52Bounds'. -/
def vt52BoundsCard : Claim7 := { stood := { row := vt52BoundsRow, standIns := [], harness := (true, "560214eb01abaebb732e17cb17868f16c7ccd5bec17dabea167e2a47e2760715"), looks := false }, kinds := [], alts := [], laidByText := true, laidKinds := [.data], laidTests := true, laidLooks := .later }
def Vt52BoundsCardSaid : Prop := Claim7.holds Tryz.pinned (.plain (OpenSpec.ofChange vt52BoundsSpec)) vt52BoundsCard

/-- THE SECOND FORM's CARD OF 'vizardlaw12.Vt52Plays'. -/
def vt52PlaysUptoCard : Claim7 := { stood := { row := vt52PlaysUptoRow, standIns := [], harness := (true, "560214eb01abaebb732e17cb17868f16c7ccd5bec17dabea167e2a47e2760715"), looks := false }, kinds := [], alts := [], laidByText := true, laidKinds := [.data], laidTests := true, laidLooks := .later }
def Vt52PlaysUptoCardSaid : Prop := Claim7.holds Tryz.pinned (.plain (OpenSpec.upto vt52PlaysSpec)) vt52PlaysUptoCard

/-- THE SECOND FORM's CARD OF 'vizardlaw12.Vt52Bounds'. -/
def vt52BoundsUptoCard : Claim7 := { stood := { row := vt52BoundsUptoRow, standIns := [], harness := (true, "560214eb01abaebb732e17cb17868f16c7ccd5bec17dabea167e2a47e2760715"), looks := false }, kinds := [], alts := [], laidByText := true, laidKinds := [.data], laidTests := true, laidLooks := .later }
def Vt52BoundsUptoCardSaid : Prop := Claim7.holds Tryz.pinned (.plain (OpenSpec.upto vt52BoundsSpec)) vt52BoundsUptoCard
end Rows
end Go.Proofs.YtlhajbcabpfbkaaGreatDoor
