/-
  DERIVED. GIVEN WITH THE SEED: THE CARDS: each row of YtlhajbcabpfbkaaDoorRows.lean that lists a variable, with what it lists TIED to the program's text (the seventh form; the later family's looks); each row that meets fmt, with fmt's text TOLD by the authors' own Lean function (tested against real Go, not proved from fmt's source: count such statements apart). THE CARD IS WHAT COUNTS. Prove the row's statement (the work); the ties are given (YtlhajbcabpfbkaaDoorTie.lean); close each card by the builder's one call (the guide's Derived/Test/ToyasCard.lean, 'card_holds'). Laid BY PROGRAM, IN A SANDBOX (cutbox-door.mjs). By AI agents, Wed Nov 11 2026. No macro, syntax, notation, axiom, sorry.
-/
import Derived.Test.YtlhajbcabpfbkaaDoorRows
import GoSem.ClaimSeven
namespace Go.Proofs.YtlhajbcabpfbkaaDoor
namespace Rows

/-- THE TIED CARD OF 'vizardlaw12.Vt52Nil'. -/
def vt52NilCard : Claim7 := { stood := { row := vt52NilRow, standIns := [], harness := (true, "104a8e42f7e49aa35b08ccd79122d9a0b2690e03ca802352eb5585a430f660da"), looks := false }, kinds := [], alts := [], laidByText := true, laidKinds := [.data], laidTests := true, laidLooks := .later }
def Vt52NilCardSaid : Prop := Claim7.holds Tryd.pinned (.plain (OpenSpec.ofChange vt52NilSpec)) vt52NilCard

/-- THE TIED CARD OF 'vizardlaw12.Vt52Writes'. -/
def vt52WritesCard : Claim7 := { stood := { row := vt52WritesRow, standIns := [], harness := (true, "104a8e42f7e49aa35b08ccd79122d9a0b2690e03ca802352eb5585a430f660da"), looks := false }, kinds := [], alts := [], laidByText := true, laidKinds := [.data], laidTests := true, laidLooks := .later }
def Vt52WritesCardSaid : Prop := Claim7.holds Tryd.pinned (.plain (OpenSpec.ofChange vt52WritesSpec)) vt52WritesCard

/-- THE TIED CARD OF 'vizardlaw12.Vt52Moves'. -/
def vt52MovesCard : Claim7 := { stood := { row := vt52MovesRow, standIns := [], harness := (true, "104a8e42f7e49aa35b08ccd79122d9a0b2690e03ca802352eb5585a430f660da"), looks := false }, kinds := [], alts := [], laidByText := true, laidKinds := [.data], laidTests := true, laidLooks := .later }
def Vt52MovesCardSaid : Prop := Claim7.holds Tryd.pinned (.plain (OpenSpec.ofChange vt52MovesSpec)) vt52MovesCard

/-- THE TIED CARD OF 'vizardlaw12.Vt52Graphs'. -/
def vt52GraphsCard : Claim7 := { stood := { row := vt52GraphsRow, standIns := [], harness := (true, "104a8e42f7e49aa35b08ccd79122d9a0b2690e03ca802352eb5585a430f660da"), looks := false }, kinds := [], alts := [], laidByText := true, laidKinds := [.data], laidTests := true, laidLooks := .later }
def Vt52GraphsCardSaid : Prop := Claim7.holds Tryd.pinned (.plain (OpenSpec.ofChange vt52GraphsSpec)) vt52GraphsCard

/-- THE SECOND FORM's CARD OF 'vizardlaw12.Vt52Nil'. -/
def vt52NilUptoCard : Claim7 := { stood := { row := vt52NilUptoRow, standIns := [], harness := (true, "104a8e42f7e49aa35b08ccd79122d9a0b2690e03ca802352eb5585a430f660da"), looks := false }, kinds := [], alts := [], laidByText := true, laidKinds := [.data], laidTests := true, laidLooks := .later }
def Vt52NilUptoCardSaid : Prop := Claim7.holds Tryd.pinned (.plain (OpenSpec.upto vt52NilSpec)) vt52NilUptoCard

/-- THE SECOND FORM's CARD OF 'vizardlaw12.Vt52Writes'. -/
def vt52WritesUptoCard : Claim7 := { stood := { row := vt52WritesUptoRow, standIns := [], harness := (true, "104a8e42f7e49aa35b08ccd79122d9a0b2690e03ca802352eb5585a430f660da"), looks := false }, kinds := [], alts := [], laidByText := true, laidKinds := [.data], laidTests := true, laidLooks := .later }
def Vt52WritesUptoCardSaid : Prop := Claim7.holds Tryd.pinned (.plain (OpenSpec.upto vt52WritesSpec)) vt52WritesUptoCard

/-- THE SECOND FORM's CARD OF 'vizardlaw12.Vt52Moves'. -/
def vt52MovesUptoCard : Claim7 := { stood := { row := vt52MovesUptoRow, standIns := [], harness := (true, "104a8e42f7e49aa35b08ccd79122d9a0b2690e03ca802352eb5585a430f660da"), looks := false }, kinds := [], alts := [], laidByText := true, laidKinds := [.data], laidTests := true, laidLooks := .later }
def Vt52MovesUptoCardSaid : Prop := Claim7.holds Tryd.pinned (.plain (OpenSpec.upto vt52MovesSpec)) vt52MovesUptoCard

/-- THE SECOND FORM's CARD OF 'vizardlaw12.Vt52Graphs'. -/
def vt52GraphsUptoCard : Claim7 := { stood := { row := vt52GraphsUptoRow, standIns := [], harness := (true, "104a8e42f7e49aa35b08ccd79122d9a0b2690e03ca802352eb5585a430f660da"), looks := false }, kinds := [], alts := [], laidByText := true, laidKinds := [.data], laidTests := true, laidLooks := .later }
def Vt52GraphsUptoCardSaid : Prop := Claim7.holds Tryd.pinned (.plain (OpenSpec.upto vt52GraphsSpec)) vt52GraphsUptoCard
end Rows
end Go.Proofs.YtlhajbcabpfbkaaDoor
