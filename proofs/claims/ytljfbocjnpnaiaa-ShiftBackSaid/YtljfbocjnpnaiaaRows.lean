/-
  No cell of these rows narrows 'for every input' (looked for: loops, veiled, ifaces, maps, wideKeys, modest, calm, conditions, laid).
  DERIVED. THE GIVEN ROWS OF THIS SEAT. 6 by the template 'for every input the law returns true; each argument reads behind the call as it read before'; 0 by the template 'total and deterministic' (their statements: YtljfbocjnpnaiaaTotals.lean).
  GIVEN WITH THE SEED: the statements are not yours to turn. If you find one false, say at which input.
  Laid BY PROGRAM, IN A SANDBOX (cutbox-rows.mjs): the forced cells as the released guide's own fill.sh prints them over the translation 94bd1e68c52caacc… (all of the seat's roots in one cut). By AI agents, Wed Nov 11 2026. No macro, syntax, notation, axiom, sorry.
-/
import Derived.Test.YtljfbocjnpnaiaaChecked
import GoSem.Claim
import GoSem.ClaimJoined
import GoSem.ClaimMapViews
import Derived.JoinedTies
import Derived.KernelRfl
namespace Go.Proofs.Ytljfbocjnpnaiaa
/- THE CELL 'sum', in the pinned program and in every row, IS THE sha256 OF THE DUMP (.gsa) THAT YtljfbocjnpnaiaaProg.lean LOADS. Nothing in Lean hashes anything: it is a label: what it is worth is what the hold of that sum in a sandbox is worth. -/
noncomputable def Try.pinned : Pinned := { name := "ytljfbocjnpnaiaa", sum := "94bd1e68c52caacc5327736299871b5e6e9815e1d1d19ba13182abed5813462e", checked := Try.checked }
namespace Rows
def none {H : Type} : Left H := { results := [], args := [] }

/-- 'vizardlaw06.ShiftLines': WHATEVER THE INPUT: true; the input reads as it did. -/
def shiftLinesSpec : ChangeSpec := { name := "shiftLines", fn := fun _ => fun
  | [d1, d2] => { results := [.lit (.bool true)], args := [d1, d2] }
  | _ => none }
def shiftLinesRow : OpenClaim := { program := "ytljfbocjnpnaiaa", sum := "94bd1e68c52caacc5327736299871b5e6e9815e1d1d19ba13182abed5813462e", func := "vizard/vizardlaw06.ShiftLines", spec := "shiftLines", unfollowed := true, recurses := true, apart := false }
def ShiftLinesSaid : Prop := shiftLinesRow.holds Try.pinned (OpenSpec.ofChange shiftLinesSpec)

/-- ITS FALSE NEIGHBOUR: 'it returns false'. Refute it at one input. -/
def shiftLinesWrong : ChangeSpec := { name := "shiftLines", fn := fun _ => fun
  | [d1, d2] => { results := [.lit (.bool false)], args := [d1, d2] }
  | _ => none }
def ShiftLinesWrongFalsely : Prop := shiftLinesRow.holds Try.pinned (OpenSpec.ofChange shiftLinesWrong)

/-- 'vizardlaw06.ShiftChars': WHATEVER THE INPUT: true; the input reads as it did. -/
def shiftCharsSpec : ChangeSpec := { name := "shiftChars", fn := fun _ => fun
  | [d1, d2] => { results := [.lit (.bool true)], args := [d1, d2] }
  | _ => none }
def shiftCharsRow : OpenClaim := { program := "ytljfbocjnpnaiaa", sum := "94bd1e68c52caacc5327736299871b5e6e9815e1d1d19ba13182abed5813462e", func := "vizard/vizardlaw06.ShiftChars", spec := "shiftChars", unfollowed := true, recurses := true, apart := false }
def ShiftCharsSaid : Prop := shiftCharsRow.holds Try.pinned (OpenSpec.ofChange shiftCharsSpec)

/-- ITS FALSE NEIGHBOUR: 'it returns false'. Refute it at one input. -/
def shiftCharsWrong : ChangeSpec := { name := "shiftChars", fn := fun _ => fun
  | [d1, d2] => { results := [.lit (.bool false)], args := [d1, d2] }
  | _ => none }
def ShiftCharsWrongFalsely : Prop := shiftCharsRow.holds Try.pinned (OpenSpec.ofChange shiftCharsWrong)

/-- 'vizardlaw06.ShiftGuards': WHATEVER THE INPUT: true; the input reads as it did. -/
def shiftGuardsSpec : ChangeSpec := { name := "shiftGuards", fn := fun _ => fun
  | [d1, d2] => { results := [.lit (.bool true)], args := [d1, d2] }
  | _ => none }
def shiftGuardsRow : OpenClaim := { program := "ytljfbocjnpnaiaa", sum := "94bd1e68c52caacc5327736299871b5e6e9815e1d1d19ba13182abed5813462e", func := "vizard/vizardlaw06.ShiftGuards", spec := "shiftGuards", unfollowed := true, recurses := true, apart := false }
def ShiftGuardsSaid : Prop := shiftGuardsRow.holds Try.pinned (OpenSpec.ofChange shiftGuardsSpec)

/-- ITS FALSE NEIGHBOUR: 'it returns false'. Refute it at one input. -/
def shiftGuardsWrong : ChangeSpec := { name := "shiftGuards", fn := fun _ => fun
  | [d1, d2] => { results := [.lit (.bool false)], args := [d1, d2] }
  | _ => none }
def ShiftGuardsWrongFalsely : Prop := shiftGuardsRow.holds Try.pinned (OpenSpec.ofChange shiftGuardsWrong)

/-- 'vizardlaw06.ShiftBack': WHATEVER THE INPUT: true; the input reads as it did. -/
def shiftBackSpec : ChangeSpec := { name := "shiftBack", fn := fun _ => fun
  | [d1, d2] => { results := [.lit (.bool true)], args := [d1, d2] }
  | _ => none }
def shiftBackRow : OpenClaim := { program := "ytljfbocjnpnaiaa", sum := "94bd1e68c52caacc5327736299871b5e6e9815e1d1d19ba13182abed5813462e", func := "vizard/vizardlaw06.ShiftBack", spec := "shiftBack", unfollowed := true, recurses := true, apart := false }
def ShiftBackSaid : Prop := shiftBackRow.holds Try.pinned (OpenSpec.ofChange shiftBackSpec)

/-- ITS FALSE NEIGHBOUR: 'it returns false'. Refute it at one input. -/
def shiftBackWrong : ChangeSpec := { name := "shiftBack", fn := fun _ => fun
  | [d1, d2] => { results := [.lit (.bool false)], args := [d1, d2] }
  | _ => none }
def ShiftBackWrongFalsely : Prop := shiftBackRow.holds Try.pinned (OpenSpec.ofChange shiftBackWrong)

/-- 'vizardlaw06.ShiftNil': WHATEVER THE INPUT: true; the input reads as it did. -/
def shiftNilSpec : ChangeSpec := { name := "shiftNil", fn := fun _ => fun
  | [d1, d2] => { results := [.lit (.bool true)], args := [d1, d2] }
  | _ => none }
def shiftNilRow : OpenClaim := { program := "ytljfbocjnpnaiaa", sum := "94bd1e68c52caacc5327736299871b5e6e9815e1d1d19ba13182abed5813462e", func := "vizard/vizardlaw06.ShiftNil", spec := "shiftNil", unfollowed := true, recurses := true, apart := false }
def ShiftNilSaid : Prop := shiftNilRow.holds Try.pinned (OpenSpec.ofChange shiftNilSpec)

/-- ITS FALSE NEIGHBOUR: 'it returns false'. Refute it at one input. -/
def shiftNilWrong : ChangeSpec := { name := "shiftNil", fn := fun _ => fun
  | [d1, d2] => { results := [.lit (.bool false)], args := [d1, d2] }
  | _ => none }
def ShiftNilWrongFalsely : Prop := shiftNilRow.holds Try.pinned (OpenSpec.ofChange shiftNilWrong)

/-- 'vizardlaw06.ShiftSums': WHATEVER THE INPUT: true; the input reads as it did. -/
def shiftSumsSpec : ChangeSpec := { name := "shiftSums", fn := fun _ => fun
  | [d1, d2, d3] => { results := [.lit (.bool true)], args := [d1, d2, d3] }
  | _ => none }
def shiftSumsRow : OpenClaim := { program := "ytljfbocjnpnaiaa", sum := "94bd1e68c52caacc5327736299871b5e6e9815e1d1d19ba13182abed5813462e", func := "vizard/vizardlaw06.ShiftSums", spec := "shiftSums", unfollowed := true, recurses := true, apart := false }
def ShiftSumsSaid : Prop := shiftSumsRow.holds Try.pinned (OpenSpec.ofChange shiftSumsSpec)

/-- ITS FALSE NEIGHBOUR: 'it returns false'. Refute it at one input. -/
def shiftSumsWrong : ChangeSpec := { name := "shiftSums", fn := fun _ => fun
  | [d1, d2, d3] => { results := [.lit (.bool false)], args := [d1, d2, d3] }
  | _ => none }
def ShiftSumsWrongFalsely : Prop := shiftSumsRow.holds Try.pinned (OpenSpec.ofChange shiftSumsWrong)

/- THE SECOND FORM. 'bulk': how many values and letters a reading holds, each counted each time it is reached (what is shared counts as often as it is met; a slice's spare places count too). A statement '..UptoSaid' is the law's where the arguments, and the package variables that the reading takes, are together of bulk at most 1048576: NARROWER than '..Said'. Prove '..Said' where nothing that the law and all that it calls make is longer than what came in: it says more and counts as full. Else prove '..UptoSaid'. A law counts once. -/
mutual
def uptoBulk {H : Type} : DataW H → Nat
  | .lit (.string bytes) => bytes.length + 1
  | .lit _ => 1
  | .nil => 1
  | .ptr d => uptoBulk d + 1
  | .slice elems spare => uptoBulkAll elems + uptoBulkAll spare + 1
  | .agg parts => uptoBulkAll parts + 1
  | .iface _ d => uptoBulk d + 1
  | .map entries => uptoBulkEntries entries + 1
  | .held _ => 1
def uptoBulkAll {H : Type} : List (DataW H) → Nat
  | [] => 0
  | d :: r => uptoBulk d + uptoBulkAll r
def uptoBulkEntries {H : Type} : List (Lit × DataW H) → Nat
  | [] => 0
  | x :: r => uptoBulkEntry x + uptoBulkEntries r
def uptoBulkEntry {H : Type} : Lit × DataW H → Nat
  | (.string bytes, d) => bytes.length + uptoBulk d + 1
  | (_, d) => uptoBulk d + 1
 end
def uptoSmall : (H : Type) → List (DataW H) → Bool := fun _ ds => decide (uptoBulkAll ds ≤ 1048576)
def OpenSpec.upto (s : _root_.Go.ChangeSpec) : _root_.Go.OpenSpec := { _root_.Go.OpenSpec.ofChange s with cond := some uptoSmall }

/-- 'vizardlaw06.ShiftLines', WHERE WHAT IT READS IS OF BULK AT MOST 1048576: true; the input reads as it did. -/
def shiftLinesUptoRow : OpenClaim := { program := "ytljfbocjnpnaiaa", sum := "94bd1e68c52caacc5327736299871b5e6e9815e1d1d19ba13182abed5813462e", func := "vizard/vizardlaw06.ShiftLines", spec := "shiftLines", unfollowed := true, recurses := true, apart := false, narrowed := true }
def ShiftLinesUptoSaid : Prop := shiftLinesUptoRow.holds Try.pinned (OpenSpec.upto shiftLinesSpec)

/-- 'vizardlaw06.ShiftChars', WHERE WHAT IT READS IS OF BULK AT MOST 1048576: true; the input reads as it did. -/
def shiftCharsUptoRow : OpenClaim := { program := "ytljfbocjnpnaiaa", sum := "94bd1e68c52caacc5327736299871b5e6e9815e1d1d19ba13182abed5813462e", func := "vizard/vizardlaw06.ShiftChars", spec := "shiftChars", unfollowed := true, recurses := true, apart := false, narrowed := true }
def ShiftCharsUptoSaid : Prop := shiftCharsUptoRow.holds Try.pinned (OpenSpec.upto shiftCharsSpec)

/-- 'vizardlaw06.ShiftGuards', WHERE WHAT IT READS IS OF BULK AT MOST 1048576: true; the input reads as it did. -/
def shiftGuardsUptoRow : OpenClaim := { program := "ytljfbocjnpnaiaa", sum := "94bd1e68c52caacc5327736299871b5e6e9815e1d1d19ba13182abed5813462e", func := "vizard/vizardlaw06.ShiftGuards", spec := "shiftGuards", unfollowed := true, recurses := true, apart := false, narrowed := true }
def ShiftGuardsUptoSaid : Prop := shiftGuardsUptoRow.holds Try.pinned (OpenSpec.upto shiftGuardsSpec)

/-- 'vizardlaw06.ShiftBack', WHERE WHAT IT READS IS OF BULK AT MOST 1048576: true; the input reads as it did. -/
def shiftBackUptoRow : OpenClaim := { program := "ytljfbocjnpnaiaa", sum := "94bd1e68c52caacc5327736299871b5e6e9815e1d1d19ba13182abed5813462e", func := "vizard/vizardlaw06.ShiftBack", spec := "shiftBack", unfollowed := true, recurses := true, apart := false, narrowed := true }
def ShiftBackUptoSaid : Prop := shiftBackUptoRow.holds Try.pinned (OpenSpec.upto shiftBackSpec)

/-- 'vizardlaw06.ShiftNil', WHERE WHAT IT READS IS OF BULK AT MOST 1048576: true; the input reads as it did. -/
def shiftNilUptoRow : OpenClaim := { program := "ytljfbocjnpnaiaa", sum := "94bd1e68c52caacc5327736299871b5e6e9815e1d1d19ba13182abed5813462e", func := "vizard/vizardlaw06.ShiftNil", spec := "shiftNil", unfollowed := true, recurses := true, apart := false, narrowed := true }
def ShiftNilUptoSaid : Prop := shiftNilUptoRow.holds Try.pinned (OpenSpec.upto shiftNilSpec)

/-- 'vizardlaw06.ShiftSums', WHERE WHAT IT READS IS OF BULK AT MOST 1048576: true; the input reads as it did. -/
def shiftSumsUptoRow : OpenClaim := { program := "ytljfbocjnpnaiaa", sum := "94bd1e68c52caacc5327736299871b5e6e9815e1d1d19ba13182abed5813462e", func := "vizard/vizardlaw06.ShiftSums", spec := "shiftSums", unfollowed := true, recurses := true, apart := false, narrowed := true }
def ShiftSumsUptoSaid : Prop := shiftSumsUptoRow.holds Try.pinned (OpenSpec.upto shiftSumsSpec)

end Rows
end Go.Proofs.Ytljfbocjnpnaiaa
