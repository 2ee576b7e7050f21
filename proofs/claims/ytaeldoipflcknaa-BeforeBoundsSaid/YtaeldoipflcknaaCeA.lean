/-
  What is proved: the contracts of cents.Fits, cents.within, cents.Add, cents.Sub, cents.Least, cents.Greatest, cents.Clamp and of the document's own Fits and Add: what each call returns, the world as it was. Conditions: every argument of 64 bits where it is said.
-/
import Derived.Test.YtaeldoipflcknaaRows
import Derived.WalkKit
import Derived.WalkSpells
import Derived.WalkLawsBesides
namespace Go.Proofs.Ytaeldoipflcknaa.Ce
open Go.RowKit

/-- An amount fits. -/
def fitsB (c : Int) : Bool := decide (-1125899906842624 ≤ c) && decide (c ≤ 1125899906842624)
theorem fitsB_yes {c : Int} (h1 : -1125899906842624 ≤ c) (h2 : c ≤ 1125899906842624) : fitsB c = true := by simp [fitsB, h1, h2]
theorem fitsB_no {c : Int} (h : c < -1125899906842624 ∨ 1125899906842624 < c) : fitsB c = false := by
  simp only [fitsB, Bool.and_eq_false_iff, decide_eq_false_iff_not]; omega
theorem fitsB_iff {c : Int} : fitsB c = true ↔ -1125899906842624 ≤ c ∧ c ≤ 1125899906842624 := by simp [fitsB]

theorem fits_any (c : Int) (w : World) : Calls Try.prog 22 #[.int .i64 c] w fun e w' => e = .returned (.bool (fitsB c)) ∧ w = w' := by
  by_cases h1 : -1125899906842624 ≤ c
  · by_cases h2 : c ≤ 1125899906842624
    · rw [fitsB_yes h1 h2]
      go_enter Try.func22, Try.ntmps22
      go_wp2
      go_ret
      exact ⟨rfl, rfl⟩
    · rw [fitsB_no (by omega)]
      go_enter Try.func22, Try.ntmps22
      go_wp2
      go_ret
      exact ⟨rfl, rfl⟩
  · rw [fitsB_no (by omega)]
    go_enter Try.func22, Try.ntmps22
    go_wp2
    go_ret
    exact ⟨rfl, rfl⟩

/-- What 'within' tells: the amount, and the error's number. -/
def inV (c : Int) : Int := if fitsB c = true then c else 0
def inE (c : Int) : Int := if fitsB c = true then 0 else 9

theorem within_any (c : Int) (w : World) : Calls Try.prog 40 #[.int .i64 c] w fun e w' => e = .returned (.tuple #[.int .i64 (inV c), .int .i64 (inE c)]) ∧ w = w' := by
  by_cases h : fitsB c = true
  · simp only [inV, inE, h, if_true]
    go_enter Try.func40, Try.ntmps40
    go_wp2_with (go_at_call 22; refine (fits_any _ _).mono ?_; rintro e w' ⟨rfl, rfl⟩)
    go_ret2
    exact ⟨rfl, rfl⟩
  · simp only [Bool.not_eq_true] at h
    simp only [inV, inE, h]
    go_enter Try.func40, Try.ntmps40
    go_wp2_with (go_at_call 22; refine (fits_any _ _).mono ?_; rintro e w' ⟨rfl, rfl⟩)
    go_ret2
    exact ⟨rfl, rfl⟩

/-- The sum of two amounts: 0 where there is none; the error's number. -/
def addV (a b : Int) : Int := if fitsB a = true ∧ fitsB b = true then inV (a + b) else 0
def addE (a b : Int) : Int := if fitsB a = true ∧ fitsB b = true then inE (a + b) else 2
theorem addE_bd (a b : Int) : 0 ≤ addE a b ∧ addE a b ≤ 9 := by unfold addE inE; repeat' split; all_goals omega
theorem addV_bd (a b : Int) : -1125899906842624 ≤ addV a b ∧ addV a b ≤ 1125899906842624 := by
  unfold addV inV
  split
  · split
    · rename_i h; rw [fitsB_iff] at h; exact h
    · omega
  · omega

set_option maxHeartbeats 400000 in
theorem add_any (a b : Int) (w : World) : Calls Try.prog 34 #[.int .i64 a, .int .i64 b] w fun e w' => e = .returned (.tuple #[.int .i64 (addV a b), .int .i64 (addE a b)]) ∧ w = w' := by
  by_cases ha : fitsB a = true
  · by_cases hb : fitsB b = true
    · obtain ⟨a1, a2⟩ := fitsB_iff.1 ha
      obtain ⟨b1, b2⟩ := fitsB_iff.1 hb
      simp only [addV, addE, ha, hb, and_self, if_true]
      go_enter Try.func34, Try.ntmps34
      go_wp2_with (first | (go_at_call 22; refine (fits_any _ _).mono ?_; rintro e w' ⟨rfl, rfl⟩) | (go_at_call 40; refine (within_any _ _).mono ?_; rintro e w' ⟨rfl, rfl⟩))
      go_ret2
      exact ⟨rfl, rfl⟩
    · simp only [Bool.not_eq_true] at hb
      rw [show addV a b = 0 by simp [addV, hb], show addE a b = 2 by simp [addE, hb]]
      go_enter Try.func34, Try.ntmps34
      go_wp2_with (first | (go_at_call 22; refine (fits_any _ _).mono ?_; rintro e w' ⟨rfl, rfl⟩))
      go_ret2
      exact ⟨rfl, rfl⟩
  · simp only [Bool.not_eq_true] at ha
    rw [show addV a b = 0 by simp [addV, ha], show addE a b = 2 by simp [addE, ha]]
    go_enter Try.func34, Try.ntmps34
    go_wp2_with (first | (go_at_call 22; refine (fits_any _ _).mono ?_; rintro e w' ⟨rfl, rfl⟩))
    go_ret2
    exact ⟨rfl, rfl⟩

/-- The one without the other: 0 where there is none; the error's number. -/
def subV (a b : Int) : Int := if fitsB a = true ∧ fitsB b = true then inV (a - b) else 0
def subE (a b : Int) : Int := if fitsB a = true ∧ fitsB b = true then inE (a - b) else 2
theorem subE_bd (a b : Int) : 0 ≤ subE a b ∧ subE a b ≤ 9 := by unfold subE inE; repeat' split; all_goals omega

theorem inV_yes {c : Int} (h1 : -1125899906842624 ≤ c) (h2 : c ≤ 1125899906842624) : inV c = c ∧ inE c = 0 := by simp [inV, inE, fitsB_yes h1 h2]
theorem inV_no {c : Int} (h : c < -1125899906842624 ∨ 1125899906842624 < c) : inV c = 0 ∧ inE c = 9 := by simp [inV, inE, fitsB_no h]

/-- The lesser, and the greater, of two. -/
def lessV (a b : Int) : Int := if b < a then b else a
def moreV (a b : Int) : Int := if a < b then b else a

end Go.Proofs.Ytaeldoipflcknaa.Ce
