/-
  No cell of these rows narrows 'for every input' (looked for: loops, veiled, ifaces, maps, wideKeys, modest, calm, conditions, laid).
  DERIVED. THE GIVEN ROWS OF THIS SEAT. 6 by the template 'for every input the law returns true; each argument reads behind the call as it read before'; 0 by the template 'total and deterministic' (their statements: YtkdnjkcebfckiaaTotals.lean).
  GIVEN WITH THE SEED: the statements are not yours to turn. If you find one false, say at which input.
  Laid BY PROGRAM, IN A SANDBOX (cutbox-rows.mjs): the forced cells as the released guide's own fill.sh prints them over the translation aa30c7f433b5f854… (all of the seat's roots in one cut). By AI agents, Wed Nov 11 2026. No macro, syntax, notation, axiom, sorry.
-/
import Derived.Test.YtkdnjkcebfckiaaChecked
import GoSem.Claim
import GoSem.ClaimJoined
import GoSem.ClaimMapViews
import Derived.JoinedTies
import Derived.KernelRfl
namespace Go.Proofs.Ytkdnjkcebfckiaa
/- THE CELL 'sum', in the pinned program and in every row, IS THE sha256 OF THE DUMP (.gsa) THAT YtkdnjkcebfckiaaProg.lean LOADS. Nothing in Lean hashes anything: it is a label: what it is worth is what the hold of that sum in a sandbox is worth. -/
noncomputable def Try.pinned : Pinned := { name := "ytkdnjkcebfckiaa", sum := "aa30c7f433b5f8548d2dbbeb2b179aabd0e87b44eb62048310e5d403344a778c", checked := Try.checked }
namespace Rows
def none {H : Type} : Left H := { results := [], args := [] }

/-- 'vizardlaw08.InkPuts': WHATEVER THE INPUT: true; the input reads as it did. -/
def inkPutsSpec : ChangeSpec := { name := "inkPuts", fn := fun _ => fun
  | [d1, d2] => { results := [.lit (.bool true)], args := [d1, d2] }
  | _ => none }
def inkPutsRow : OpenClaim := { program := "ytkdnjkcebfckiaa", sum := "aa30c7f433b5f8548d2dbbeb2b179aabd0e87b44eb62048310e5d403344a778c", func := "vizard/vizardlaw08.InkPuts", spec := "inkPuts", apart := false }
def InkPutsSaid : Prop := inkPutsRow.holds Try.pinned (OpenSpec.ofChange inkPutsSpec)

/-- ITS FALSE NEIGHBOUR: 'it returns false'. Refute it at one input. -/
def inkPutsWrong : ChangeSpec := { name := "inkPuts", fn := fun _ => fun
  | [d1, d2] => { results := [.lit (.bool false)], args := [d1, d2] }
  | _ => none }
def InkPutsWrongFalsely : Prop := inkPutsRow.holds Try.pinned (OpenSpec.ofChange inkPutsWrong)

/-- 'vizardlaw08.InkFree': WHATEVER THE INPUT: true; the input reads as it did. -/
def inkFreeSpec : ChangeSpec := { name := "inkFree", fn := fun _ => fun
  | [d1, d2] => { results := [.lit (.bool true)], args := [d1, d2] }
  | _ => none }
def inkFreeRow : OpenClaim := { program := "ytkdnjkcebfckiaa", sum := "aa30c7f433b5f8548d2dbbeb2b179aabd0e87b44eb62048310e5d403344a778c", func := "vizard/vizardlaw08.InkFree", spec := "inkFree", unfollowed := true, recurses := true, apart := false }
def InkFreeSaid : Prop := inkFreeRow.holds Try.pinned (OpenSpec.ofChange inkFreeSpec)

/-- ITS FALSE NEIGHBOUR: 'it returns false'. Refute it at one input. -/
def inkFreeWrong : ChangeSpec := { name := "inkFree", fn := fun _ => fun
  | [d1, d2] => { results := [.lit (.bool false)], args := [d1, d2] }
  | _ => none }
def InkFreeWrongFalsely : Prop := inkFreeRow.holds Try.pinned (OpenSpec.ofChange inkFreeWrong)

/-- 'vizardlaw08.InkGuards': WHATEVER THE INPUT: true; the input reads as it did. -/
def inkGuardsSpec : ChangeSpec := { name := "inkGuards", fn := fun _ => fun
  | [d1, d2] => { results := [.lit (.bool true)], args := [d1, d2] }
  | _ => none }
def inkGuardsRow : OpenClaim := { program := "ytkdnjkcebfckiaa", sum := "aa30c7f433b5f8548d2dbbeb2b179aabd0e87b44eb62048310e5d403344a778c", func := "vizard/vizardlaw08.InkGuards", spec := "inkGuards", unfollowed := true, recurses := true, apart := false }
def InkGuardsSaid : Prop := inkGuardsRow.holds Try.pinned (OpenSpec.ofChange inkGuardsSpec)

/-- ITS FALSE NEIGHBOUR: 'it returns false'. Refute it at one input. -/
def inkGuardsWrong : ChangeSpec := { name := "inkGuards", fn := fun _ => fun
  | [d1, d2] => { results := [.lit (.bool false)], args := [d1, d2] }
  | _ => none }
def InkGuardsWrongFalsely : Prop := inkGuardsRow.holds Try.pinned (OpenSpec.ofChange inkGuardsWrong)

/-- 'vizardlaw08.InkJoins': WHATEVER THE INPUT: true; the input reads as it did. -/
def inkJoinsSpec : ChangeSpec := { name := "inkJoins", fn := fun _ => fun
  | [d1, d2, d3] => { results := [.lit (.bool true)], args := [d1, d2, d3] }
  | _ => none }
def inkJoinsRow : OpenClaim := { program := "ytkdnjkcebfckiaa", sum := "aa30c7f433b5f8548d2dbbeb2b179aabd0e87b44eb62048310e5d403344a778c", func := "vizard/vizardlaw08.InkJoins", spec := "inkJoins", unfollowed := true, recurses := true, apart := false }
def InkJoinsSaid : Prop := inkJoinsRow.holds Try.pinned (OpenSpec.ofChange inkJoinsSpec)

/-- ITS FALSE NEIGHBOUR: 'it returns false'. Refute it at one input. -/
def inkJoinsWrong : ChangeSpec := { name := "inkJoins", fn := fun _ => fun
  | [d1, d2, d3] => { results := [.lit (.bool false)], args := [d1, d2, d3] }
  | _ => none }
def InkJoinsWrongFalsely : Prop := inkJoinsRow.holds Try.pinned (OpenSpec.ofChange inkJoinsWrong)

/-- 'vizardlaw08.InkNil': WHATEVER THE INPUT: true; the input reads as it did. -/
def inkNilSpec : ChangeSpec := { name := "inkNil", fn := fun _ => fun
  | [d] => { results := [.lit (.bool true)], args := [d] }
  | _ => none }
def inkNilRow : OpenClaim := { program := "ytkdnjkcebfckiaa", sum := "aa30c7f433b5f8548d2dbbeb2b179aabd0e87b44eb62048310e5d403344a778c", func := "vizard/vizardlaw08.InkNil", spec := "inkNil", unfollowed := true, recurses := true, apart := false }
def InkNilSaid : Prop := inkNilRow.holds Try.pinned (OpenSpec.ofChange inkNilSpec)

/-- ITS FALSE NEIGHBOUR: 'it returns false'. Refute it at one input. -/
def inkNilWrong : ChangeSpec := { name := "inkNil", fn := fun _ => fun
  | [d] => { results := [.lit (.bool false)], args := [d] }
  | _ => none }
def InkNilWrongFalsely : Prop := inkNilRow.holds Try.pinned (OpenSpec.ofChange inkNilWrong)

/-- 'vizardlaw08.InkOnce': WHATEVER THE INPUT: true; the input reads as it did. -/
def inkOnceSpec : ChangeSpec := { name := "inkOnce", fn := fun _ => fun
  | [d1, d2] => { results := [.lit (.bool true)], args := [d1, d2] }
  | _ => none }
def inkOnceRow : OpenClaim := { program := "ytkdnjkcebfckiaa", sum := "aa30c7f433b5f8548d2dbbeb2b179aabd0e87b44eb62048310e5d403344a778c", func := "vizard/vizardlaw08.InkOnce", spec := "inkOnce", unfollowed := true, recurses := true, apart := false }
def InkOnceSaid : Prop := inkOnceRow.holds Try.pinned (OpenSpec.ofChange inkOnceSpec)

/-- ITS FALSE NEIGHBOUR: 'it returns false'. Refute it at one input. -/
def inkOnceWrong : ChangeSpec := { name := "inkOnce", fn := fun _ => fun
  | [d1, d2] => { results := [.lit (.bool false)], args := [d1, d2] }
  | _ => none }
def InkOnceWrongFalsely : Prop := inkOnceRow.holds Try.pinned (OpenSpec.ofChange inkOnceWrong)

/- THE SECOND FORM. 'bulk': how many values and letters a reading holds, each counted each time it is reached (what is shared counts as often as it is met; a slice's spare places count too). A statement '..UptoSaid' is the law's where the arguments, and the package variables that the reading takes, are together of bulk at most 1048576: NARROWER than '..Said'. Prove '..Said' where nothing that the law and all that it calls make is longer than what came in: it says more and counts as full. Else prove '..UptoSaid'. A law counts once. -/
mutual
def uptoBulk {H : Type} : DataW H → Nat
  | .lit (.string bytes) => bytes.length + 1
  | .lit _ => 1
  | .nil => 1
  | .ptr d => uptoBulk d + 1
  | .slice elems spare => uptoBulkAll elems + uptoBulkAll spare + 1
  | .agg parts => uptoBulkAll parts + 1
  | .iface _ d => uptoBulk d + 1
  | .map entries => uptoBulkEntries entries + 1
  | .held _ => 1
def uptoBulkAll {H : Type} : List (DataW H) → Nat
  | [] => 0
  | d :: r => uptoBulk d + uptoBulkAll r
def uptoBulkEntries {H : Type} : List (Lit × DataW H) → Nat
  | [] => 0
  | x :: r => uptoBulkEntry x + uptoBulkEntries r
def uptoBulkEntry {H : Type} : Lit × DataW H → Nat
  | (.string bytes, d) => bytes.length + uptoBulk d + 1
  | (_, d) => uptoBulk d + 1
 end
def uptoSmall : (H : Type) → List (DataW H) → Bool := fun _ ds => decide (uptoBulkAll ds ≤ 1048576)
def OpenSpec.upto (s : _root_.Go.ChangeSpec) : _root_.Go.OpenSpec := { _root_.Go.OpenSpec.ofChange s with cond := some uptoSmall }

/-- 'vizardlaw08.InkPuts', WHERE WHAT IT READS IS OF BULK AT MOST 1048576: true; the input reads as it did. -/
def inkPutsUptoRow : OpenClaim := { program := "ytkdnjkcebfckiaa", sum := "aa30c7f433b5f8548d2dbbeb2b179aabd0e87b44eb62048310e5d403344a778c", func := "vizard/vizardlaw08.InkPuts", spec := "inkPuts", apart := false, narrowed := true }
def InkPutsUptoSaid : Prop := inkPutsUptoRow.holds Try.pinned (OpenSpec.upto inkPutsSpec)

/-- 'vizardlaw08.InkFree', WHERE WHAT IT READS IS OF BULK AT MOST 1048576: true; the input reads as it did. -/
def inkFreeUptoRow : OpenClaim := { program := "ytkdnjkcebfckiaa", sum := "aa30c7f433b5f8548d2dbbeb2b179aabd0e87b44eb62048310e5d403344a778c", func := "vizard/vizardlaw08.InkFree", spec := "inkFree", unfollowed := true, recurses := true, apart := false, narrowed := true }
def InkFreeUptoSaid : Prop := inkFreeUptoRow.holds Try.pinned (OpenSpec.upto inkFreeSpec)

/-- 'vizardlaw08.InkGuards', WHERE WHAT IT READS IS OF BULK AT MOST 1048576: true; the input reads as it did. -/
def inkGuardsUptoRow : OpenClaim := { program := "ytkdnjkcebfckiaa", sum := "aa30c7f433b5f8548d2dbbeb2b179aabd0e87b44eb62048310e5d403344a778c", func := "vizard/vizardlaw08.InkGuards", spec := "inkGuards", unfollowed := true, recurses := true, apart := false, narrowed := true }
def InkGuardsUptoSaid : Prop := inkGuardsUptoRow.holds Try.pinned (OpenSpec.upto inkGuardsSpec)

/-- 'vizardlaw08.InkJoins', WHERE WHAT IT READS IS OF BULK AT MOST 1048576: true; the input reads as it did. -/
def inkJoinsUptoRow : OpenClaim := { program := "ytkdnjkcebfckiaa", sum := "aa30c7f433b5f8548d2dbbeb2b179aabd0e87b44eb62048310e5d403344a778c", func := "vizard/vizardlaw08.InkJoins", spec := "inkJoins", unfollowed := true, recurses := true, apart := false, narrowed := true }
def InkJoinsUptoSaid : Prop := inkJoinsUptoRow.holds Try.pinned (OpenSpec.upto inkJoinsSpec)

/-- 'vizardlaw08.InkNil', WHERE WHAT IT READS IS OF BULK AT MOST 1048576: true; the input reads as it did. -/
def inkNilUptoRow : OpenClaim := { program := "ytkdnjkcebfckiaa", sum := "aa30c7f433b5f8548d2dbbeb2b179aabd0e87b44eb62048310e5d403344a778c", func := "vizard/vizardlaw08.InkNil", spec := "inkNil", unfollowed := true, recurses := true, apart := false, narrowed := true }
def InkNilUptoSaid : Prop := inkNilUptoRow.holds Try.pinned (OpenSpec.upto inkNilSpec)

/-- 'vizardlaw08.InkOnce', WHERE WHAT IT READS IS OF BULK AT MOST 1048576: true; the input reads as it did. -/
def inkOnceUptoRow : OpenClaim := { program := "ytkdnjkcebfckiaa", sum := "aa30c7f433b5f8548d2dbbeb2b179aabd0e87b44eb62048310e5d403344a778c", func := "vizard/vizardlaw08.InkOnce", spec := "inkOnce", unfollowed := true, recurses := true, apart := false, narrowed := true }
def InkOnceUptoSaid : Prop := inkOnceUptoRow.holds Try.pinned (OpenSpec.upto inkOnceSpec)

end Rows
end Go.Proofs.Ytkdnjkcebfckiaa
