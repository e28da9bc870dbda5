/-
  What the rows share: the program's knob, and that all is laid out. No program's run.
-/
import Derived.Test.YtadcnfenchemhaaDoorRows
import Derived.WalkKit
import Derived.ProofKit
import Derived.OpenShut
import Derived.ShutString
import Derived.ChangeOld
import Derived.ChangeMaps5
import Derived.LaidMore
import Derived.LaidSub
import Derived.Carry
import Derived.Deep.Slices
namespace Go.Proofs.YtadcnfenchemhaaDoor
open Go.ChangeShapes Go.WideShapes Go.ChangeAt Go.RowKit

theorem Tryd.own : ownKnob Tryd.prog.godebug = none := by kernel_rfl
theorem Tryd.laidOut : laidOutB Tryd.prog = true := by kernel_rfl
end Go.Proofs.YtadcnfenchemhaaDoor
