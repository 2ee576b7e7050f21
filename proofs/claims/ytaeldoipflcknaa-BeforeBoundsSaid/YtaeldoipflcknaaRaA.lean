/-
  What is proved: small facts that the proofs of rate lean on: when an amount fits, and what cents.Fits answers. Conditions: none.
-/
import Derived.Test.YtaeldoipflcknaaRows
import Derived.WalkKit
import Derived.WalkSpells
import Derived.WalkLawsBesides
import Derived.Lib.Hide
namespace Go.Proofs.Ytaeldoipflcknaa.Ra
open Go Go.RowKit Go.Lib Go.Proofs

/-- An amount fits. -/
def fitsB (c : Int) : Bool := decide (-1125899906842624 ≤ c) && decide (c ≤ 1125899906842624)
theorem fitsB_yes {c : Int} (h1 : -1125899906842624 ≤ c) (h2 : c ≤ 1125899906842624) : fitsB c = true := by simp [fitsB, h1, h2]
theorem fitsB_no {c : Int} (h : c < -1125899906842624 ∨ 1125899906842624 < c) : fitsB c = false := by
  simp only [fitsB, Bool.and_eq_false_iff, decide_eq_false_iff_not]; omega
theorem fitsB_iff {c : Int} : fitsB c = true ↔ -1125899906842624 ≤ c ∧ c ≤ 1125899906842624 := by simp [fitsB]

theorem fits_any (c : Int) (w : World) : Calls Try.prog 22 #[.int .i64 c] w fun e w' => e = .returned (.bool (fitsB c)) ∧ w = w' := by
  by_cases h1 : -1125899906842624 ≤ c
  · by_cases h2 : c ≤ 1125899906842624
    · rw [fitsB_yes h1 h2]
      go_enter Try.func22, Try.ntmps22
      go_wp2
      go_ret
      exact ⟨rfl, rfl⟩
    · rw [fitsB_no (by omega)]
      go_enter Try.func22, Try.ntmps22
      go_wp2
      go_ret
      exact ⟨rfl, rfl⟩
  · rw [fitsB_no (by omega)]
    go_enter Try.func22, Try.ntmps22
    go_wp2
    go_ret
    exact ⟨rfl, rfl⟩

end Go.Proofs.Ytaeldoipflcknaa.Ra
