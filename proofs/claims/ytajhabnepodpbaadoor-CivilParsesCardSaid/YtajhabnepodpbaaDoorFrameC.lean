/-
  What is proved: what the listed table of months' lengths gives to a call, and that the program's own start meets that condition. Conditions: none.
-/
import Derived.Test.YtajhabnepodpbaaDoorRows
import Derived.Test.YtajhabnepodpbaaDoorCivA
import Derived.ProofKit
import Derived.LaidMore
import Derived.OpenShut
import Derived.ShutString
import Derived.ChangeOld
import Derived.Below
import Derived.Lib.LaidTab
import Derived.Stop.Joined
namespace Go.Proofs.YtajhabnepodpbaaDoor
open Go Go.ChangeShapes Go.WideShapes Go.ChangeAt Go.RowKit Go.Lib

theorem own : ownKnob Tryd.prog.godebug = none := by kernel_rfl
theorem laidOut : laidOutB Tryd.prog = true := by kernel_rfl

/-- The table that the rows of civil list. -/
def laid1 : List (String × DataW Unit) := [("wagebook/civil.lengths", Rows.laid_wagebook_civil_lengths)]
def lenTab : List Int := [31, 28, 31, 30, 31, 30, 31, 31, 30, 31, 30, 31]

theorem gLen : Tryd.prog.globalNamed "wagebook/civil.lengths" = some 0 := by kernel_rfl
theorem tLen : (Tryd.prog.globals[0]?).map (·.type) = some 52 := by kernel_rfl
theorem cLen : Tryd.prog.cellsOf 52 = 12 := by kernel_rfl
theorem cInt : Tryd.prog.cellsOf 3 = 1 := by kernel_rfl
theorem eLen : (Rows.laid_wagebook_civil_lengths : DataW Unit) = tabData .i64 lenTab := rfl

/-- The program's own start meets the condition. -/
theorem door1 (os : Os) (args : Array Value) : laidMetH Tryd.prog laid1 ((World.doorLaid Tryd.prog 400 os).forCall (fun _ _ => 0) ⟨#[], args, []⟩).memory :=
  laidMetH_of_parts3 (fuel := 8) (laidMet_of_run' 8 (by kernel_rfl) (by kernel_rfl)) (by kernel_rfl) (by kernel_rfl)

/-- What the condition gives. -/
theorem tab_of1 {W : World} (h : laidMetH Tryd.prog laid1 W) : Len W := by
  rw [MakeChecks.laidMetH_plain _ _ _ (by kernel_rfl)] at h
  have h' : laidMet Tryd.prog [("wagebook/civil.lengths", tabData .i64 lenTab)] W := h
  have hT := tabIs_of_head gLen tLen Tryd.underlying52 Tryd.underlying3 cInt cLen h'
  intro k hk
  have := hT.cell gLen k hk
  rw [this]
  have e : k = 0 ∨ k = 1 ∨ k = 2 ∨ k = 3 ∨ k = 4 ∨ k = 5 ∨ k = 6 ∨ k = 7 ∨ k = 8 ∨ k = 9 ∨ k = 10 ∨ k = 11 := by omega
  rcases e with rfl | rfl | rfl | rfl | rfl | rfl | rfl | rfl | rfl | rfl | rfl | rfl <;> rfl

end Go.Proofs.YtajhabnepodpbaaDoor
