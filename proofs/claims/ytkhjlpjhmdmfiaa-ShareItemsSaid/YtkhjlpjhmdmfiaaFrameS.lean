/-
  What is proved: two facts on the program as a whole that each statement's frame asks for. Conditions: none.
-/
import Derived.Test.YtkhjlpjhmdmfiaaRows
import Derived.WalkKit
import Derived.ProofKit
import Derived.OpenShut
import Derived.ShutString
import Derived.ChangeOld
import Derived.Below
import Derived.Stop.Joined
namespace Go.Proofs.Ytkhjlpjhmdmfiaa
open Go Go.ChangeShapes Go.WideShapes Go.ChangeAt Go.RowKit

theorem own : ownKnob Try.prog.godebug = none := by kernel_rfl
theorem laidOut : laidOutB Try.prog = true := by kernel_rfl

end Go.Proofs.Ytkhjlpjhmdmfiaa
