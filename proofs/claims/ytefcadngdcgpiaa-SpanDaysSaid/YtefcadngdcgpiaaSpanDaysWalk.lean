/-
  What is proved: SpanDays returns true for all that it may be handed. Conditions: what came in lies in memory as the frame says.
-/
import Derived.Test.YtefcadngdcgpiaaSpanDaysFF
import Derived.Test.YtefcadngdcgpiaaSpanDaysFT
import Derived.Test.YtefcadngdcgpiaaSpanDaysTF
import Derived.Test.YtefcadngdcgpiaaSpanDaysTT
namespace Go.Proofs.Ytefcadngdcgpiaa
open Go Go.RowKit Go.Proofs

theorem walkSpanDays (p : Option Addr) (n cp : Nat) (L : List Sp) (q : Option Addr) (m cq : Nat) (M : List Sp) (d : Int) (w : World) (hp : SpansArg w p n cp L) (hq : SpansArg w q m cq M) (hd : (Lit.int .i64 d).wf = true) :
    Calls Try.prog 4 #[.slice p n cp, .slice q m cq, .int .i64 d] w fun e w' => e = .returned (.bool true) ∧ Below w.heap.size w w' := by
  cases hA : hasB L d <;> cases hB : hasB M d
  · exact walkDaysFF p n cp L q m cq M d w hp hq hd hA hB
  · exact walkDaysFT p n cp L q m cq M d w hp hq hd hA hB
  · exact walkDaysTF p n cp L q m cq M d w hp hq hd hA hB
  · exact walkDaysTT p n cp L q m cq M d w hp hq hd hA hB

end Go.Proofs.Ytefcadngdcgpiaa
