/-
  NARROWER THAN 'FOR EVERY INPUT', by the rows' own cells (each row's printed sentence says how): ScreenPlays: laid · ScreenCopies: laid · ScreenFeeds: laid · ScreenNil: laid · ScreenGrows: laid.
  DERIVED. THE GIVEN ROWS OF THIS SEAT. 5 by the template 'for every input the law returns true; each argument reads behind the call as it read before'; 0 by the template 'total and deterministic' (their statements: YtkpfhgfdfndliaaGreatDoorTotals.lean).
  GIVEN WITH THE SEED: the statements are not yours to turn. If you find one false, say at which input.
  Laid BY PROGRAM, IN A SANDBOX (cutbox-rows.mjs): the forced cells as the released guide's own fill.sh prints them over the translation 399c340db48e4008… (all of the seat's roots in one cut). By AI agents, Wed Nov 11 2026. No macro, syntax, notation, axiom, sorry.
-/
import Derived.Test.YtkpfhgfdfndliaaGreatDoorChecked
import GoSem.Claim
import GoSem.ClaimJoined
import GoSem.ClaimMapViews
import Derived.JoinedTies
import Derived.KernelRfl
namespace Go.Proofs.YtkpfhgfdfndliaaGreatDoor
/- THE CELL 'sum', in the pinned program and in every row, IS THE sha256 OF THE DUMP (.gsa) THAT YtkpfhgfdfndliaaGreatDoorProg.lean LOADS. Nothing in Lean hashes anything: it is a label: what it is worth is what the hold of that sum in a sandbox is worth. -/
noncomputable def Tryz.pinned : Pinned := { name := "ytkpfhgfdfndliaagreatdoor", sum := "399c340db48e4008314a12854ab908e17769672ae860182757a1a14b4c1b1e0f", checked := Tryz.checked }
namespace Rows
def none {H : Type} : Left H := { results := [], args := [] }

/- WHAT THE LISTED PACKAGE-LEVEL VARIABLES READ AS WHEN THE CALL BEGINS. Each datum BY PROGRAM (the guide's laid-datum.mjs) off the statement by which the dump's own 'gosem.cut.vars' lays the variable. In a bare row this is a premise. The card (YtkpfhgfdfndliaaGreatDoorCards.lean) ties it to the program's text. -/
def laid_vizard_screen_Blank {H : Type} : DataW H := .agg [.lit (.int .i32 32), .lit (.int .i64 0), .lit (.bool false), .lit (.int .i64 0)]

/-- 'vizardlaw09.ScreenPlays': WHATEVER THE INPUT: true; the input reads as it did. -/
def screenPlaysSpec : ChangeSpec := { name := "screenPlays", fn := fun _ => fun
  | [d1, d2] => { results := [.lit (.bool true)], args := [d1, d2] }
  | _ => none }
def screenPlaysRow : OpenClaim := { program := "ytkpfhgfdfndliaagreatdoor", sum := "399c340db48e4008314a12854ab908e17769672ae860182757a1a14b4c1b1e0f", func := "vizard/vizardlaw09.ScreenPlays", spec := "screenPlays", unfollowed := true, recurses := true, named := ["vizard/screen.Blank"], apart := false, laid := [("vizard/screen.Blank", laid_vizard_screen_Blank)] }
def ScreenPlaysSaid : Prop := screenPlaysRow.holds Tryz.pinned (OpenSpec.ofChange screenPlaysSpec)

/-- ITS FALSE NEIGHBOUR: 'it returns false'. Refute it at one input. -/
def screenPlaysWrong : ChangeSpec := { name := "screenPlays", fn := fun _ => fun
  | [d1, d2] => { results := [.lit (.bool false)], args := [d1, d2] }
  | _ => none }
def ScreenPlaysWrongFalsely : Prop := screenPlaysRow.holds Tryz.pinned (OpenSpec.ofChange screenPlaysWrong)

/-- 'vizardlaw09.ScreenCopies': WHATEVER THE INPUT: true; the input reads as it did. -/
def screenCopiesSpec : ChangeSpec := { name := "screenCopies", fn := fun _ => fun
  | [d1, d2] => { results := [.lit (.bool true)], args := [d1, d2] }
  | _ => none }
def screenCopiesRow : OpenClaim := { program := "ytkpfhgfdfndliaagreatdoor", sum := "399c340db48e4008314a12854ab908e17769672ae860182757a1a14b4c1b1e0f", func := "vizard/vizardlaw09.ScreenCopies", spec := "screenCopies", inPlace := ["maps.clone"], unfollowed := true, recurses := true, named := ["vizard/screen.Blank"], apart := false, laid := [("vizard/screen.Blank", laid_vizard_screen_Blank)] }
def ScreenCopiesSaid : Prop := screenCopiesRow.holds Tryz.pinned (OpenSpec.ofChange screenCopiesSpec)

/-- ITS FALSE NEIGHBOUR: 'it returns false'. Refute it at one input. -/
def screenCopiesWrong : ChangeSpec := { name := "screenCopies", fn := fun _ => fun
  | [d1, d2] => { results := [.lit (.bool false)], args := [d1, d2] }
  | _ => none }
def ScreenCopiesWrongFalsely : Prop := screenCopiesRow.holds Tryz.pinned (OpenSpec.ofChange screenCopiesWrong)

/-- 'vizardlaw09.ScreenFeeds': WHATEVER THE INPUT: true; the input reads as it did. -/
def screenFeedsSpec : ChangeSpec := { name := "screenFeeds", fn := fun _ => fun
  | [d1, d2] => { results := [.lit (.bool true)], args := [d1, d2] }
  | _ => none }
def screenFeedsRow : OpenClaim := { program := "ytkpfhgfdfndliaagreatdoor", sum := "399c340db48e4008314a12854ab908e17769672ae860182757a1a14b4c1b1e0f", func := "vizard/vizardlaw09.ScreenFeeds", spec := "screenFeeds", inPlace := ["maps.clone"], unfollowed := true, recurses := true, named := ["vizard/screen.Blank"], apart := false, laid := [("vizard/screen.Blank", laid_vizard_screen_Blank)] }
def ScreenFeedsSaid : Prop := screenFeedsRow.holds Tryz.pinned (OpenSpec.ofChange screenFeedsSpec)

/-- ITS FALSE NEIGHBOUR: 'it returns false'. Refute it at one input. -/
def screenFeedsWrong : ChangeSpec := { name := "screenFeeds", fn := fun _ => fun
  | [d1, d2] => { results := [.lit (.bool false)], args := [d1, d2] }
  | _ => none }
def ScreenFeedsWrongFalsely : Prop := screenFeedsRow.holds Tryz.pinned (OpenSpec.ofChange screenFeedsWrong)

/-- 'vizardlaw09.ScreenNil': WHATEVER THE INPUT: true; the input reads as it did. -/
def screenNilSpec : ChangeSpec := { name := "screenNil", fn := fun _ => fun
  | [d] => { results := [.lit (.bool true)], args := [d] }
  | _ => none }
def screenNilRow : OpenClaim := { program := "ytkpfhgfdfndliaagreatdoor", sum := "399c340db48e4008314a12854ab908e17769672ae860182757a1a14b4c1b1e0f", func := "vizard/vizardlaw09.ScreenNil", spec := "screenNil", inPlace := ["maps.clone"], unfollowed := true, recurses := true, named := ["vizard/screen.Blank"], apart := false, laid := [("vizard/screen.Blank", laid_vizard_screen_Blank)] }
def ScreenNilSaid : Prop := screenNilRow.holds Tryz.pinned (OpenSpec.ofChange screenNilSpec)

/-- ITS FALSE NEIGHBOUR: 'it returns false'. Refute it at one input. -/
def screenNilWrong : ChangeSpec := { name := "screenNil", fn := fun _ => fun
  | [d] => { results := [.lit (.bool false)], args := [d] }
  | _ => none }
def ScreenNilWrongFalsely : Prop := screenNilRow.holds Tryz.pinned (OpenSpec.ofChange screenNilWrong)

/-- 'vizardlaw09.ScreenGrows': WHATEVER THE INPUT: true; the input reads as it did. -/
def screenGrowsSpec : ChangeSpec := { name := "screenGrows", fn := fun _ => fun
  | [d1, d2] => { results := [.lit (.bool true)], args := [d1, d2] }
  | _ => none }
def screenGrowsRow : OpenClaim := { program := "ytkpfhgfdfndliaagreatdoor", sum := "399c340db48e4008314a12854ab908e17769672ae860182757a1a14b4c1b1e0f", func := "vizard/vizardlaw09.ScreenGrows", spec := "screenGrows", inPlace := ["maps.clone"], unfollowed := true, recurses := true, named := ["vizard/screen.Blank"], apart := false, laid := [("vizard/screen.Blank", laid_vizard_screen_Blank)] }
def ScreenGrowsSaid : Prop := screenGrowsRow.holds Tryz.pinned (OpenSpec.ofChange screenGrowsSpec)

/-- ITS FALSE NEIGHBOUR: 'it returns false'. Refute it at one input. -/
def screenGrowsWrong : ChangeSpec := { name := "screenGrows", fn := fun _ => fun
  | [d1, d2] => { results := [.lit (.bool false)], args := [d1, d2] }
  | _ => none }
def ScreenGrowsWrongFalsely : Prop := screenGrowsRow.holds Tryz.pinned (OpenSpec.ofChange screenGrowsWrong)

/- THE SECOND FORM. 'bulk': how many values and letters a reading holds, each counted each time it is reached (what is shared counts as often as it is met; a slice's spare places count too). A statement '..UptoSaid' is the law's where the arguments, and the package variables that the reading takes, are together of bulk at most 1048576: NARROWER than '..Said'. Prove '..Said' where nothing that the law and all that it calls make is longer than what came in: it says more and counts as full. Else prove '..UptoSaid'. A law counts once. -/
mutual
def uptoBulk {H : Type} : DataW H → Nat
  | .lit (.string bytes) => bytes.length + 1
  | .lit _ => 1
  | .nil => 1
  | .ptr d => uptoBulk d + 1
  | .slice elems spare => uptoBulkAll elems + uptoBulkAll spare + 1
  | .agg parts => uptoBulkAll parts + 1
  | .iface _ d => uptoBulk d + 1
  | .map entries => uptoBulkEntries entries + 1
  | .held _ => 1
def uptoBulkAll {H : Type} : List (DataW H) → Nat
  | [] => 0
  | d :: r => uptoBulk d + uptoBulkAll r
def uptoBulkEntries {H : Type} : List (Lit × DataW H) → Nat
  | [] => 0
  | x :: r => uptoBulkEntry x + uptoBulkEntries r
def uptoBulkEntry {H : Type} : Lit × DataW H → Nat
  | (.string bytes, d) => bytes.length + uptoBulk d + 1
  | (_, d) => uptoBulk d + 1
 end
def uptoSmall : (H : Type) → List (DataW H) → Bool := fun _ ds => decide (uptoBulkAll ds ≤ 1048576)
def OpenSpec.upto (s : _root_.Go.ChangeSpec) : _root_.Go.OpenSpec := { _root_.Go.OpenSpec.ofChange s with cond := some uptoSmall }

/-- 'vizardlaw09.ScreenPlays', WHERE WHAT IT READS IS OF BULK AT MOST 1048576: true; the input reads as it did. -/
def screenPlaysUptoRow : OpenClaim := { program := "ytkpfhgfdfndliaagreatdoor", sum := "399c340db48e4008314a12854ab908e17769672ae860182757a1a14b4c1b1e0f", func := "vizard/vizardlaw09.ScreenPlays", spec := "screenPlays", unfollowed := true, recurses := true, named := ["vizard/screen.Blank"], apart := false, laid := [("vizard/screen.Blank", laid_vizard_screen_Blank)], narrowed := true }
def ScreenPlaysUptoSaid : Prop := screenPlaysUptoRow.holds Tryz.pinned (OpenSpec.upto screenPlaysSpec)

/-- 'vizardlaw09.ScreenCopies', WHERE WHAT IT READS IS OF BULK AT MOST 1048576: true; the input reads as it did. -/
def screenCopiesUptoRow : OpenClaim := { program := "ytkpfhgfdfndliaagreatdoor", sum := "399c340db48e4008314a12854ab908e17769672ae860182757a1a14b4c1b1e0f", func := "vizard/vizardlaw09.ScreenCopies", spec := "screenCopies", inPlace := ["maps.clone"], unfollowed := true, recurses := true, named := ["vizard/screen.Blank"], apart := false, laid := [("vizard/screen.Blank", laid_vizard_screen_Blank)], narrowed := true }
def ScreenCopiesUptoSaid : Prop := screenCopiesUptoRow.holds Tryz.pinned (OpenSpec.upto screenCopiesSpec)

/-- 'vizardlaw09.ScreenFeeds', WHERE WHAT IT READS IS OF BULK AT MOST 1048576: true; the input reads as it did. -/
def screenFeedsUptoRow : OpenClaim := { program := "ytkpfhgfdfndliaagreatdoor", sum := "399c340db48e4008314a12854ab908e17769672ae860182757a1a14b4c1b1e0f", func := "vizard/vizardlaw09.ScreenFeeds", spec := "screenFeeds", inPlace := ["maps.clone"], unfollowed := true, recurses := true, named := ["vizard/screen.Blank"], apart := false, laid := [("vizard/screen.Blank", laid_vizard_screen_Blank)], narrowed := true }
def ScreenFeedsUptoSaid : Prop := screenFeedsUptoRow.holds Tryz.pinned (OpenSpec.upto screenFeedsSpec)

/-- 'vizardlaw09.ScreenNil', WHERE WHAT IT READS IS OF BULK AT MOST 1048576: true; the input reads as it did. -/
def screenNilUptoRow : OpenClaim := { program := "ytkpfhgfdfndliaagreatdoor", sum := "399c340db48e4008314a12854ab908e17769672ae860182757a1a14b4c1b1e0f", func := "vizard/vizardlaw09.ScreenNil", spec := "screenNil", inPlace := ["maps.clone"], unfollowed := true, recurses := true, named := ["vizard/screen.Blank"], apart := false, laid := [("vizard/screen.Blank", laid_vizard_screen_Blank)], narrowed := true }
def ScreenNilUptoSaid : Prop := screenNilUptoRow.holds Tryz.pinned (OpenSpec.upto screenNilSpec)

/-- 'vizardlaw09.ScreenGrows', WHERE WHAT IT READS IS OF BULK AT MOST 1048576: true; the input reads as it did. -/
def screenGrowsUptoRow : OpenClaim := { program := "ytkpfhgfdfndliaagreatdoor", sum := "399c340db48e4008314a12854ab908e17769672ae860182757a1a14b4c1b1e0f", func := "vizard/vizardlaw09.ScreenGrows", spec := "screenGrows", inPlace := ["maps.clone"], unfollowed := true, recurses := true, named := ["vizard/screen.Blank"], apart := false, laid := [("vizard/screen.Blank", laid_vizard_screen_Blank)], narrowed := true }
def ScreenGrowsUptoSaid : Prop := screenGrowsUptoRow.holds Tryz.pinned (OpenSpec.upto screenGrowsSpec)

end Rows
end Go.Proofs.YtkpfhgfdfndliaaGreatDoor
