/-
  DERIVED. GIVEN WITH THE SEED: THE CARDS: each row of YtadcnfenchemhaaDoorRows.lean that lists a variable, with what it lists TIED to the program's text (the seventh form; the later family's looks); each row that meets fmt, with fmt's text TOLD by the authors' own Lean function (tested against real Go, not proved from fmt's source: count such statements apart). THE CARD IS WHAT COUNTS. Prove the row's statement (the work); the ties are given (YtadcnfenchemhaaDoorTie.lean); close each card by the builder's one call (the guide's Derived/Test/ToyasCard.lean, 'card_holds'). Laid BY PROGRAM, IN A SANDBOX (cutbox-door.mjs). By AI agents, Wed Nov 11 2026. No macro, syntax, notation, axiom, sorry.
-/
import Derived.Test.YtadcnfenchemhaaDoorRows
import GoSem.ClaimSeven
namespace Go.Proofs.YtadcnfenchemhaaDoor
namespace Rows

/-- THE TIED CARD OF 'vizardlaw10.ParamsNumbers'. -/
def paramsNumbersCard : Claim7 := { stood := { row := paramsNumbersRow, standIns := [], harness := (true, "deddbaad471800aaa920de51ca53d112a53665156ba1c63d45fc40c607e5740b"), looks := false }, kinds := [], alts := [], laidByText := true, laidKinds := [.data, .pinned], laidTests := true, laidLooks := .later }
def ParamsNumbersCardSaid : Prop := Claim7.holds Tryd.pinned (.plain (OpenSpec.ofChange paramsNumbersSpec)) paramsNumbersCard

/-- THE TIED CARD OF 'vizardlaw10.ParamsPlays'. -/
def paramsPlaysCard : Claim7 := { stood := { row := paramsPlaysRow, standIns := [], harness := (true, "deddbaad471800aaa920de51ca53d112a53665156ba1c63d45fc40c607e5740b"), looks := false }, kinds := [], alts := [], laidByText := true, laidKinds := [.data, .pinned], laidTests := true, laidLooks := .later }
def ParamsPlaysCardSaid : Prop := Claim7.holds Tryd.pinned (.plain (OpenSpec.ofChange paramsPlaysSpec)) paramsPlaysCard

/-- THE TIED CARD OF 'vizardlaw10.ParamsBounds'. -/
def paramsBoundsCard : Claim7 := { stood := { row := paramsBoundsRow, standIns := [], harness := (true, "deddbaad471800aaa920de51ca53d112a53665156ba1c63d45fc40c607e5740b"), looks := false }, kinds := [], alts := [], laidByText := true, laidKinds := [.data, .pinned], laidTests := true, laidLooks := .later }
def ParamsBoundsCardSaid : Prop := Claim7.holds Tryd.pinned (.plain (OpenSpec.ofChange paramsBoundsSpec)) paramsBoundsCard

/-- THE TIED CARD OF 'vizardlaw10.ParamsNil'. -/
def paramsNilCard : Claim7 := { stood := { row := paramsNilRow, standIns := [], harness := (true, "deddbaad471800aaa920de51ca53d112a53665156ba1c63d45fc40c607e5740b"), looks := false }, kinds := [], alts := [], laidByText := true, laidKinds := [.data, .pinned], laidTests := true, laidLooks := .later }
def ParamsNilCardSaid : Prop := Claim7.holds Tryd.pinned (.plain (OpenSpec.ofChange paramsNilSpec)) paramsNilCard

/-- THE TIED CARD OF 'vizardlaw10.ParamsJoins'. -/
def paramsJoinsCard : Claim7 := { stood := { row := paramsJoinsRow, standIns := [], harness := (true, "deddbaad471800aaa920de51ca53d112a53665156ba1c63d45fc40c607e5740b"), looks := false }, kinds := [], alts := [], laidByText := true, laidKinds := [.data, .pinned], laidTests := true, laidLooks := .later }
def ParamsJoinsCardSaid : Prop := Claim7.holds Tryd.pinned (.plain (OpenSpec.ofChange paramsJoinsSpec)) paramsJoinsCard

/-- THE TIED CARD OF 'vizardlaw10.ParamsZeros'. -/
def paramsZerosCard : Claim7 := { stood := { row := paramsZerosRow, standIns := [], harness := (true, "deddbaad471800aaa920de51ca53d112a53665156ba1c63d45fc40c607e5740b"), looks := false }, kinds := [], alts := [], laidByText := true, laidKinds := [.data, .pinned], laidTests := true, laidLooks := .later }
def ParamsZerosCardSaid : Prop := Claim7.holds Tryd.pinned (.plain (OpenSpec.ofChange paramsZerosSpec)) paramsZerosCard

/-- THE SECOND FORM's CARD OF 'vizardlaw10.ParamsNumbers'. -/
def paramsNumbersUptoCard : Claim7 := { stood := { row := paramsNumbersUptoRow, standIns := [], harness := (true, "deddbaad471800aaa920de51ca53d112a53665156ba1c63d45fc40c607e5740b"), looks := false }, kinds := [], alts := [], laidByText := true, laidKinds := [.data, .pinned], laidTests := true, laidLooks := .later }
def ParamsNumbersUptoCardSaid : Prop := Claim7.holds Tryd.pinned (.plain (OpenSpec.upto paramsNumbersSpec)) paramsNumbersUptoCard

/-- THE SECOND FORM's CARD OF 'vizardlaw10.ParamsPlays'. -/
def paramsPlaysUptoCard : Claim7 := { stood := { row := paramsPlaysUptoRow, standIns := [], harness := (true, "deddbaad471800aaa920de51ca53d112a53665156ba1c63d45fc40c607e5740b"), looks := false }, kinds := [], alts := [], laidByText := true, laidKinds := [.data, .pinned], laidTests := true, laidLooks := .later }
def ParamsPlaysUptoCardSaid : Prop := Claim7.holds Tryd.pinned (.plain (OpenSpec.upto paramsPlaysSpec)) paramsPlaysUptoCard

/-- THE SECOND FORM's CARD OF 'vizardlaw10.ParamsBounds'. -/
def paramsBoundsUptoCard : Claim7 := { stood := { row := paramsBoundsUptoRow, standIns := [], harness := (true, "deddbaad471800aaa920de51ca53d112a53665156ba1c63d45fc40c607e5740b"), looks := false }, kinds := [], alts := [], laidByText := true, laidKinds := [.data, .pinned], laidTests := true, laidLooks := .later }
def ParamsBoundsUptoCardSaid : Prop := Claim7.holds Tryd.pinned (.plain (OpenSpec.upto paramsBoundsSpec)) paramsBoundsUptoCard

/-- THE SECOND FORM's CARD OF 'vizardlaw10.ParamsNil'. -/
def paramsNilUptoCard : Claim7 := { stood := { row := paramsNilUptoRow, standIns := [], harness := (true, "deddbaad471800aaa920de51ca53d112a53665156ba1c63d45fc40c607e5740b"), looks := false }, kinds := [], alts := [], laidByText := true, laidKinds := [.data, .pinned], laidTests := true, laidLooks := .later }
def ParamsNilUptoCardSaid : Prop := Claim7.holds Tryd.pinned (.plain (OpenSpec.upto paramsNilSpec)) paramsNilUptoCard

/-- THE SECOND FORM's CARD OF 'vizardlaw10.ParamsJoins'. -/
def paramsJoinsUptoCard : Claim7 := { stood := { row := paramsJoinsUptoRow, standIns := [], harness := (true, "deddbaad471800aaa920de51ca53d112a53665156ba1c63d45fc40c607e5740b"), looks := false }, kinds := [], alts := [], laidByText := true, laidKinds := [.data, .pinned], laidTests := true, laidLooks := .later }
def ParamsJoinsUptoCardSaid : Prop := Claim7.holds Tryd.pinned (.plain (OpenSpec.upto paramsJoinsSpec)) paramsJoinsUptoCard

/-- THE SECOND FORM's CARD OF 'vizardlaw10.ParamsZeros'. -/
def paramsZerosUptoCard : Claim7 := { stood := { row := paramsZerosUptoRow, standIns := [], harness := (true, "deddbaad471800aaa920de51ca53d112a53665156ba1c63d45fc40c607e5740b"), looks := false }, kinds := [], alts := [], laidByText := true, laidKinds := [.data, .pinned], laidTests := true, laidLooks := .later }
def ParamsZerosUptoCardSaid : Prop := Claim7.holds Tryd.pinned (.plain (OpenSpec.upto paramsZerosSpec)) paramsZerosUptoCard
end Rows
end Go.Proofs.YtadcnfenchemhaaDoor
