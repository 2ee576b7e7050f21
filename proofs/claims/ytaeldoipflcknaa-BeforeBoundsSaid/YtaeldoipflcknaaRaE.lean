/-
  What is proved: the contracts of rate.Part and Of, by plain functions on whole numbers. Conditions: every number is of 64 bits.
-/
import Derived.Test.YtaeldoipflcknaaRaD
namespace Go.Proofs.Ytaeldoipflcknaa.Ra
open Go Go.RowKit Go.Proofs

/-- A rate is right. -/
def rightB (r : Int) : Bool := decide (-1000000000 ≤ r) && decide (r ≤ 1000000000)
theorem rightB_yes {c : Int} (h1 : -1000000000 ≤ c) (h2 : c ≤ 1000000000) : rightB c = true := by simp [rightB, h1, h2]
theorem rightB_no {c : Int} (h : c < -1000000000 ∨ 1000000000 < c) : rightB c = false := by
  simp only [rightB, Bool.and_eq_false_iff, decide_eq_false_iff_not]; omega
theorem rightB_iff {c : Int} : rightB c = true ↔ -1000000000 ≤ c ∧ c ≤ 1000000000 := by simp [rightB]

theorem right_any (c : Int) (w : World) : Calls Try.prog 42 #[.int .i64 c] w fun e w' => e = .returned (.bool (rightB c)) ∧ w = w' := by
  by_cases h1 : -1000000000 ≤ c
  · by_cases h2 : c ≤ 1000000000
    · rw [rightB_yes h1 h2]
      go_enter Try.func42, Try.ntmps42
      go_wp2
      go_ret
      exact ⟨rfl, rfl⟩
    · rw [rightB_no (by omega)]
      go_enter Try.func42, Try.ntmps42
      go_wp2
      go_ret
      exact ⟨rfl, rfl⟩
  · rw [rightB_no (by omega)]
    go_enter Try.func42, Try.ntmps42
    go_wp2
    go_ret
    exact ⟨rfl, rfl⟩

/-- A part, or the error's number. -/
def partVE (c num den mode : Int) : Int × Int :=
  if fitsB c = true then (if den = 0 then (0, 22) else if den < 0 then (0, 2) else if mode < 0 ∨ 4 < mode then (0, 11) else
    match portO c num den.toNat mode 1125899906842624 with
    | none => (0, 9)
    | some p => (p, 0)) else (0, 2)

set_option maxHeartbeats 1000000 in
theorem part_any (c num den mode : Int) (n1 : -9223372036854775808 ≤ num) (n2 : num ≤ 9223372036854775807) (d2 : den ≤ 9223372036854775807) (w : World) :
    Calls Try.prog 43 #[.int .i64 c, .int .i64 num, .int .i64 den, .int .i64 mode] w fun e w' => e = .returned (.tuple #[.int .i64 (partVE c num den mode).1, .int .i64 (partVE c num den mode).2]) ∧ Below w.heap.size w w' := by
  by_cases hf : fitsB c = true
  · obtain ⟨f1, f2⟩ := fitsB_iff.1 hf
    by_cases h0 : den = 0
    · rw [show partVE c num den mode = (0, 22) by simp [partVE, hf, h0]]
      subst h0
      go_enter Try.func43, Try.ntmps43
      go_wp2_with (first | (go_at_call 22; refine (fits_any _ _).mono ?_; rintro e w' ⟨rfl, rfl⟩))
      go_ret2
      exact ⟨rfl, Below.refl _ _⟩
    have h0b : (den == 0) = false := beq_eq_false_iff_ne.2 h0
    by_cases h1 : den < 0
    · rw [show partVE c num den mode = (0, 2) by simp [partVE, hf, h0, h1]]
      go_enter Try.func43, Try.ntmps43
      go_wp2_with (first | (go_at_call 22; refine (fits_any _ _).mono ?_; rintro e w' ⟨rfl, rfl⟩))
      go_ret2
      exact ⟨rfl, Below.refl _ _⟩
    by_cases h2 : mode < 0
    · rw [show partVE c num den mode = (0, 11) by simp [partVE, hf, h0, h1, h2]]
      go_enter Try.func43, Try.ntmps43
      go_wp2_with (first | (go_at_call 22; refine (fits_any _ _).mono ?_; rintro e w' ⟨rfl, rfl⟩))
      go_ret2
      exact ⟨rfl, Below.refl _ _⟩
    by_cases h3 : 4 < mode
    · rw [show partVE c num den mode = (0, 11) by simp [partVE, hf, h0, h1, h3]]
      go_enter Try.func43, Try.ntmps43
      go_wp2_with (first | (go_at_call 22; refine (fits_any _ _).mono ?_; rintro e w' ⟨rfl, rfl⟩))
      go_ret2
      exact ⟨rfl, Below.refl _ _⟩
    have HP := portion_any c num den mode 1125899906842624 (by omega) (by omega) n1 n2 (by omega) d2 (by omega) (by omega) (Nat.le_refl _) w
    have hpv : partVE c num den mode = match portO c num den.toNat mode 1125899906842624 with
      | none => (0, 9)
      | some p => (p, 0) := by
        unfold partVE; rw [if_pos hf, if_neg h0, if_neg h1, if_neg (by omega)]
    rw [hpv]
    cases hO : portO c num den.toNat mode 1125899906842624 with
    | none =>
      rw [hO] at HP
      have H := Lib.hid HP
      clear HP hpv hO h0
      simp only [portVE] at H
      go_enter Try.func43, Try.ntmps43
      go_wp2_with fail
      refine (fits_any _ _).mono ?_
      rintro e w' ⟨rfl, rfl⟩
      go_wp2_with fail
      refine (H.out).mono ?_
      rintro e w1 ⟨rfl, hb⟩
      go_wp2
      go_ret2
      exact ⟨rfl, hb⟩
    | some p =>
      rw [hO] at HP
      have H := Lib.hid HP
      clear HP hpv hO h0
      simp only [portVE] at H
      go_enter Try.func43, Try.ntmps43
      go_wp2_with fail
      refine (fits_any _ _).mono ?_
      rintro e w' ⟨rfl, rfl⟩
      go_wp2_with fail
      refine (H.out).mono ?_
      rintro e w1 ⟨rfl, hb⟩
      go_wp2
      go_ret2
      exact ⟨rfl, hb⟩
  · simp only [Bool.not_eq_true] at hf
    rw [show partVE c num den mode = (0, 2) by simp [partVE, hf]]
    go_enter Try.func43, Try.ntmps43
    go_wp2_with (first | (go_at_call 22; refine (fits_any _ _).mono ?_; rintro e w' ⟨rfl, rfl⟩))
    go_ret2
    exact ⟨rfl, Below.refl _ _⟩

/-- The part r of c. -/
def ofVE (c r mode : Int) : Int × Int := if rightB r = true then partVE c r 1000000 mode else (0, 2)

theorem of_any (c r mode : Int) (w : World) : Calls Try.prog 39 #[.int .i64 c, .int .i64 r, .int .i64 mode] w fun e w' => e = .returned (.tuple #[.int .i64 (ofVE c r mode).1, .int .i64 (ofVE c r mode).2]) ∧ Below w.heap.size w w' := by
  by_cases hr : rightB r = true
  · obtain ⟨f1, f2⟩ := rightB_iff.1 hr
    rw [show ofVE c r mode = partVE c r 1000000 mode by simp [ofVE, hr]]
    have H := Lib.hid (part_any c r 1000000 mode (by omega) (by omega) (by omega) w)
    go_enter Try.func39, Try.ntmps39
    go_wp2_with fail
    refine (right_any _ _).mono ?_
    rintro e w' ⟨rfl, rfl⟩
    go_wp2_with fail
    refine (H.out).mono ?_
    rintro e w1 ⟨rfl, hb⟩
    go_wp2
    go_ret2
    exact ⟨rfl, hb⟩
  · simp only [Bool.not_eq_true] at hr
    rw [show ofVE c r mode = (0, 2) by simp [ofVE, hr]]
    go_enter Try.func39, Try.ntmps39
    go_wp2_with fail
    refine (right_any _ _).mono ?_
    rintro e w' ⟨rfl, rfl⟩
    go_wp2
    go_ret2
    exact ⟨rfl, Below.refl _ _⟩

end Go.Proofs.Ytaeldoipflcknaa.Ra
