/-
  No cell of these rows narrows 'for every input' (looked for: loops, veiled, ifaces, maps, wideKeys, modest, calm, conditions, laid).
  DERIVED. THE GIVEN ROWS OF THIS SEAT. 6 by the template 'for every input the law returns true; each argument reads behind the call as it read before'; 0 by the template 'total and deterministic' (their statements: YtedgnjideemfbaaTotals.lean).
  GIVEN WITH THE SEED: the statements are not yours to turn. If you find one false, say at which input.
  Laid BY PROGRAM, IN A SANDBOX (cutbox-rows.mjs): the forced cells as the released guide's own fill.sh prints them over the translation f561d3ce592da30d… (all of the seat's roots in one cut). By AI agents, Wed Nov 11 2026. No macro, syntax, notation, axiom, sorry.
-/
import Derived.Test.YtedgnjideemfbaaChecked
import GoSem.Claim
import GoSem.ClaimJoined
import GoSem.ClaimMapViews
import Derived.JoinedTies
import Derived.KernelRfl
namespace Go.Proofs.Ytedgnjideemfbaa
/- THE CELL 'sum', in the pinned program and in every row, IS THE sha256 OF THE DUMP (.gsa) THAT YtedgnjideemfbaaProg.lean LOADS. Nothing in Lean hashes anything: it is a label: what it is worth is what the hold of that sum in a sandbox is worth. -/
noncomputable def Try.pinned : Pinned := { name := "ytedgnjideemfbaa", sum := "f561d3ce592da30df66aef0222155f8cf26c3bead57fef06807552e060cd435d", checked := Try.checked }
namespace Rows
def none {H : Type} : Left H := { results := [], args := [] }

/-- 'vizardlaw07.WipePlays': WHATEVER THE INPUT: true; the input reads as it did. -/
def wipePlaysSpec : ChangeSpec := { name := "wipePlays", fn := fun _ => fun
  | [d1, d2] => { results := [.lit (.bool true)], args := [d1, d2] }
  | _ => none }
def wipePlaysRow : OpenClaim := { program := "ytedgnjideemfbaa", sum := "f561d3ce592da30df66aef0222155f8cf26c3bead57fef06807552e060cd435d", func := "vizard/vizardlaw07.WipePlays", spec := "wipePlays", unfollowed := true, recurses := true, apart := false }
def WipePlaysSaid : Prop := wipePlaysRow.holds Try.pinned (OpenSpec.ofChange wipePlaysSpec)

/-- ITS FALSE NEIGHBOUR: 'it returns false'. Refute it at one input. -/
def wipePlaysWrong : ChangeSpec := { name := "wipePlays", fn := fun _ => fun
  | [d1, d2] => { results := [.lit (.bool false)], args := [d1, d2] }
  | _ => none }
def WipePlaysWrongFalsely : Prop := wipePlaysRow.holds Try.pinned (OpenSpec.ofChange wipePlaysWrong)

/-- 'vizardlaw07.WipeParts': WHATEVER THE INPUT: true; the input reads as it did. -/
def wipePartsSpec : ChangeSpec := { name := "wipeParts", fn := fun _ => fun
  | [d1, d2, d3] => { results := [.lit (.bool true)], args := [d1, d2, d3] }
  | _ => none }
def wipePartsRow : OpenClaim := { program := "ytedgnjideemfbaa", sum := "f561d3ce592da30df66aef0222155f8cf26c3bead57fef06807552e060cd435d", func := "vizard/vizardlaw07.WipeParts", spec := "wipeParts", unfollowed := true, recurses := true, apart := false }
def WipePartsSaid : Prop := wipePartsRow.holds Try.pinned (OpenSpec.ofChange wipePartsSpec)

/-- ITS FALSE NEIGHBOUR: 'it returns false'. Refute it at one input. -/
def wipePartsWrong : ChangeSpec := { name := "wipeParts", fn := fun _ => fun
  | [d1, d2, d3] => { results := [.lit (.bool false)], args := [d1, d2, d3] }
  | _ => none }
def WipePartsWrongFalsely : Prop := wipePartsRow.holds Try.pinned (OpenSpec.ofChange wipePartsWrong)

/-- 'vizardlaw07.WipeGuards': WHATEVER THE INPUT: true; the input reads as it did. -/
def wipeGuardsSpec : ChangeSpec := { name := "wipeGuards", fn := fun _ => fun
  | [d1, d2] => { results := [.lit (.bool true)], args := [d1, d2] }
  | _ => none }
def wipeGuardsRow : OpenClaim := { program := "ytedgnjideemfbaa", sum := "f561d3ce592da30df66aef0222155f8cf26c3bead57fef06807552e060cd435d", func := "vizard/vizardlaw07.WipeGuards", spec := "wipeGuards", unfollowed := true, recurses := true, apart := false }
def WipeGuardsSaid : Prop := wipeGuardsRow.holds Try.pinned (OpenSpec.ofChange wipeGuardsSpec)

/-- ITS FALSE NEIGHBOUR: 'it returns false'. Refute it at one input. -/
def wipeGuardsWrong : ChangeSpec := { name := "wipeGuards", fn := fun _ => fun
  | [d1, d2] => { results := [.lit (.bool false)], args := [d1, d2] }
  | _ => none }
def WipeGuardsWrongFalsely : Prop := wipeGuardsRow.holds Try.pinned (OpenSpec.ofChange wipeGuardsWrong)

/-- 'vizardlaw07.WipeMeets': WHATEVER THE INPUT: true; the input reads as it did. -/
def wipeMeetsSpec : ChangeSpec := { name := "wipeMeets", fn := fun _ => fun
  | [d1, d2] => { results := [.lit (.bool true)], args := [d1, d2] }
  | _ => none }
def wipeMeetsRow : OpenClaim := { program := "ytedgnjideemfbaa", sum := "f561d3ce592da30df66aef0222155f8cf26c3bead57fef06807552e060cd435d", func := "vizard/vizardlaw07.WipeMeets", spec := "wipeMeets", unfollowed := true, recurses := true, apart := false }
def WipeMeetsSaid : Prop := wipeMeetsRow.holds Try.pinned (OpenSpec.ofChange wipeMeetsSpec)

/-- ITS FALSE NEIGHBOUR: 'it returns false'. Refute it at one input. -/
def wipeMeetsWrong : ChangeSpec := { name := "wipeMeets", fn := fun _ => fun
  | [d1, d2] => { results := [.lit (.bool false)], args := [d1, d2] }
  | _ => none }
def WipeMeetsWrongFalsely : Prop := wipeMeetsRow.holds Try.pinned (OpenSpec.ofChange wipeMeetsWrong)

/-- 'vizardlaw07.WipeNil': WHATEVER THE INPUT: true; the input reads as it did. -/
def wipeNilSpec : ChangeSpec := { name := "wipeNil", fn := fun _ => fun
  | [d] => { results := [.lit (.bool true)], args := [d] }
  | _ => none }
def wipeNilRow : OpenClaim := { program := "ytedgnjideemfbaa", sum := "f561d3ce592da30df66aef0222155f8cf26c3bead57fef06807552e060cd435d", func := "vizard/vizardlaw07.WipeNil", spec := "wipeNil", unfollowed := true, recurses := true, apart := false }
def WipeNilSaid : Prop := wipeNilRow.holds Try.pinned (OpenSpec.ofChange wipeNilSpec)

/-- ITS FALSE NEIGHBOUR: 'it returns false'. Refute it at one input. -/
def wipeNilWrong : ChangeSpec := { name := "wipeNil", fn := fun _ => fun
  | [d] => { results := [.lit (.bool false)], args := [d] }
  | _ => none }
def WipeNilWrongFalsely : Prop := wipeNilRow.holds Try.pinned (OpenSpec.ofChange wipeNilWrong)

/-- 'vizardlaw07.WipeApart': WHATEVER THE INPUT: true; the input reads as it did. -/
def wipeApartSpec : ChangeSpec := { name := "wipeApart", fn := fun _ => fun
  | [d1, d2, d3] => { results := [.lit (.bool true)], args := [d1, d2, d3] }
  | _ => none }
def wipeApartRow : OpenClaim := { program := "ytedgnjideemfbaa", sum := "f561d3ce592da30df66aef0222155f8cf26c3bead57fef06807552e060cd435d", func := "vizard/vizardlaw07.WipeApart", spec := "wipeApart", unfollowed := true, recurses := true, apart := false }
def WipeApartSaid : Prop := wipeApartRow.holds Try.pinned (OpenSpec.ofChange wipeApartSpec)

/-- ITS FALSE NEIGHBOUR: 'it returns false'. Refute it at one input. -/
def wipeApartWrong : ChangeSpec := { name := "wipeApart", fn := fun _ => fun
  | [d1, d2, d3] => { results := [.lit (.bool false)], args := [d1, d2, d3] }
  | _ => none }
def WipeApartWrongFalsely : Prop := wipeApartRow.holds Try.pinned (OpenSpec.ofChange wipeApartWrong)

/- THE SECOND FORM. 'bulk': how many values and letters a reading holds, each counted each time it is reached (what is shared counts as often as it is met; a slice's spare places count too). A statement '..UptoSaid' is the law's where the arguments, and the package variables that the reading takes, are together of bulk at most 1048576: NARROWER than '..Said'. Prove '..Said' where nothing that the law and all that it calls make is longer than what came in: it says more and counts as full. Else prove '..UptoSaid'. A law counts once. -/
mutual
def uptoBulk {H : Type} : DataW H → Nat
  | .lit (.string bytes) => bytes.length + 1
  | .lit _ => 1
  | .nil => 1
  | .ptr d => uptoBulk d + 1
  | .slice elems spare => uptoBulkAll elems + uptoBulkAll spare + 1
  | .agg parts => uptoBulkAll parts + 1
  | .iface _ d => uptoBulk d + 1
  | .map entries => uptoBulkEntries entries + 1
  | .held _ => 1
def uptoBulkAll {H : Type} : List (DataW H) → Nat
  | [] => 0
  | d :: r => uptoBulk d + uptoBulkAll r
def uptoBulkEntries {H : Type} : List (Lit × DataW H) → Nat
  | [] => 0
  | x :: r => uptoBulkEntry x + uptoBulkEntries r
def uptoBulkEntry {H : Type} : Lit × DataW H → Nat
  | (.string bytes, d) => bytes.length + uptoBulk d + 1
  | (_, d) => uptoBulk d + 1
 end
def uptoSmall : (H : Type) → List (DataW H) → Bool := fun _ ds => decide (uptoBulkAll ds ≤ 1048576)
def OpenSpec.upto (s : _root_.Go.ChangeSpec) : _root_.Go.OpenSpec := { _root_.Go.OpenSpec.ofChange s with cond := some uptoSmall }

/-- 'vizardlaw07.WipePlays', WHERE WHAT IT READS IS OF BULK AT MOST 1048576: true; the input reads as it did. -/
def wipePlaysUptoRow : OpenClaim := { program := "ytedgnjideemfbaa", sum := "f561d3ce592da30df66aef0222155f8cf26c3bead57fef06807552e060cd435d", func := "vizard/vizardlaw07.WipePlays", spec := "wipePlays", unfollowed := true, recurses := true, apart := false, narrowed := true }
def WipePlaysUptoSaid : Prop := wipePlaysUptoRow.holds Try.pinned (OpenSpec.upto wipePlaysSpec)

/-- 'vizardlaw07.WipeParts', WHERE WHAT IT READS IS OF BULK AT MOST 1048576: true; the input reads as it did. -/
def wipePartsUptoRow : OpenClaim := { program := "ytedgnjideemfbaa", sum := "f561d3ce592da30df66aef0222155f8cf26c3bead57fef06807552e060cd435d", func := "vizard/vizardlaw07.WipeParts", spec := "wipeParts", unfollowed := true, recurses := true, apart := false, narrowed := true }
def WipePartsUptoSaid : Prop := wipePartsUptoRow.holds Try.pinned (OpenSpec.upto wipePartsSpec)

/-- 'vizardlaw07.WipeGuards', WHERE WHAT IT READS IS OF BULK AT MOST 1048576: true; the input reads as it did. -/
def wipeGuardsUptoRow : OpenClaim := { program := "ytedgnjideemfbaa", sum := "f561d3ce592da30df66aef0222155f8cf26c3bead57fef06807552e060cd435d", func := "vizard/vizardlaw07.WipeGuards", spec := "wipeGuards", unfollowed := true, recurses := true, apart := false, narrowed := true }
def WipeGuardsUptoSaid : Prop := wipeGuardsUptoRow.holds Try.pinned (OpenSpec.upto wipeGuardsSpec)

/-- 'vizardlaw07.WipeMeets', WHERE WHAT IT READS IS OF BULK AT MOST 1048576: true; the input reads as it did. -/
def wipeMeetsUptoRow : OpenClaim := { program := "ytedgnjideemfbaa", sum := "f561d3ce592da30df66aef0222155f8cf26c3bead57fef06807552e060cd435d", func := "vizard/vizardlaw07.WipeMeets", spec := "wipeMeets", unfollowed := true, recurses := true, apart := false, narrowed := true }
def WipeMeetsUptoSaid : Prop := wipeMeetsUptoRow.holds Try.pinned (OpenSpec.upto wipeMeetsSpec)

/-- 'vizardlaw07.WipeNil', WHERE WHAT IT READS IS OF BULK AT MOST 1048576: true; the input reads as it did. -/
def wipeNilUptoRow : OpenClaim := { program := "ytedgnjideemfbaa", sum := "f561d3ce592da30df66aef0222155f8cf26c3bead57fef06807552e060cd435d", func := "vizard/vizardlaw07.WipeNil", spec := "wipeNil", unfollowed := true, recurses := true, apart := false, narrowed := true }
def WipeNilUptoSaid : Prop := wipeNilUptoRow.holds Try.pinned (OpenSpec.upto wipeNilSpec)

/-- 'vizardlaw07.WipeApart', WHERE WHAT IT READS IS OF BULK AT MOST 1048576: true; the input reads as it did. -/
def wipeApartUptoRow : OpenClaim := { program := "ytedgnjideemfbaa", sum := "f561d3ce592da30df66aef0222155f8cf26c3bead57fef06807552e060cd435d", func := "vizard/vizardlaw07.WipeApart", spec := "wipeApart", unfollowed := true, recurses := true, apart := false, narrowed := true }
def WipeApartUptoSaid : Prop := wipeApartUptoRow.holds Try.pinned (OpenSpec.upto wipeApartSpec)

end Rows
end Go.Proofs.Ytedgnjideemfbaa
