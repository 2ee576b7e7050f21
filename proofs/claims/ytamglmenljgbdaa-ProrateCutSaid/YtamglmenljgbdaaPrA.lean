/-
  What is proved: the contracts of prorate.Period, Hourly and Loss, and of the document's own ones, by plain functions on whole numbers. Conditions: every number is of 64 bits.
-/
import Derived.Test.YtamglmenljgbdaaRaJ
import Derived.Test.YtamglmenljgbdaaShG
namespace Go.Proofs.Ytamglmenljgbdaa
open Go Go.RowKit Go.Proofs

theorem below_drewN {B : Nat} {a w : World} (h : Below B a w) (n : Nat) : Below B a (w.drewN n) := ⟨h.os, h.tape, h.output, h.size, h.block⟩
def in64 (n : Int) : Prop := -9223372036854775808 ≤ n ∧ n ≤ 9223372036854775807
theorem wr64 {n : Int} (h : in64 n) : RowKit.wrap64 n = n := by unfold in64 at h; unfold RowKit.wrap64; omega

/-- What of a yearly amount is a period's, and why it isn't told. -/
def perV (y i n : Int) : Int := Sh.betR y (if i < 1 then -1 else i - 1) (if i < 1 then 0 else i) n
def perE (y i n : Int) : Int := Sh.betE y (if i < 1 then -1 else i - 1) (if i < 1 then 0 else i) n
theorem in_neg {n m : Int} (h : n < 0) : Sh.inB n m = false := by simp [Sh.inB]; omega
theorem per_prog (y i n : Int) (hi : in64 i) : Sh.betR y (RowKit.wrap64 (i - 1)) i n = perV y i n ∧ Sh.betE y (RowKit.wrap64 (i - 1)) i n = perE y i n := by
  unfold in64 at hi
  by_cases h : i < 1
  · have e : Sh.betE y (RowKit.wrap64 (i - 1)) i n = perE y i n := by
      unfold perE Sh.betE
      rw [if_pos h, if_pos h]
      split
      · have h1 : ¬ (Sh.inB (-1) n = true ∧ Sh.inB 0 n = true) := fun h => by rw [in_neg (by omega)] at h; cases h.1
        have h2 : ¬ (Sh.inB (RowKit.wrap64 (i - 1)) n = true ∧ Sh.inB i n = true) := fun h' => by
          by_cases h0 : i < 0
          · rw [in_neg h0] at h'; cases h'.2
          · obtain rfl : i = 0 := by omega
            rw [show RowKit.wrap64 (0 - 1) = -1 by unfold RowKit.wrap64; omega, in_neg (by omega)] at h'; cases h'.1
        rw [if_neg h1, if_neg h2]
      · rfl
    refine ⟨?_, e⟩
    unfold perV Sh.betR
    rw [e]
    unfold perE
    have h0 : ¬ Sh.betE y (if i < 1 then -1 else i - 1) (if i < 1 then 0 else i) n = 0 := by
      rw [if_pos h, if_pos h]
      unfold Sh.betE
      split
      · rw [if_neg (fun h => by rw [in_neg (by omega)] at h; cases h.1)]; decide
      · assumption
    rw [if_neg h0, if_neg h0]
  · unfold perV perE
    rw [if_neg h, if_neg h, wr64 (by unfold in64; omega)]
    exact ⟨rfl, rfl⟩

set_option maxHeartbeats 1000000 in
set_option maxRecDepth 100000 in
theorem Period_any (a i n b c d y : Int) (w : World) (hi : in64 i) : Calls Try.prog 12 #[.agg #[.int .i64 a, .int .i64 i, .int .i64 n, .int .i64 b, .int .i64 c, .int .i64 d], .int .i64 y] w fun e w' => e = .returned (.tuple #[.int .i64 (perV y i n), .int .i64 (perE y i n)]) ∧ Below w.heap.size w w' := by
  obtain ⟨h1, h2⟩ := per_prog y i n hi
  have H := Lib.hid (fun W => Sh.Between_any y (RowKit.wrap64 (i - 1)) i n W)
  rw [h1, h2] at H
  clear h1 h2
  go_enter Try.func12, Try.ntmps12
  go_wp2_with fail
  refine (H.out _).mono ?_
  rintro e w1 ⟨rfl, m, rfl⟩
  go_wp2
  go_ret2
  exact ⟨rfl, below_drewN ((Below.refl _ _).alloc (Nat.le_refl _) _) m⟩

set_option maxHeartbeats 1000000 in
set_option maxRecDepth 100000 in
theorem rPeriod_any (i n y : Int) (w : World) (hi : in64 i) : Calls Try.prog 13 #[.int .i64 i, .int .i64 n, .int .i64 y] w fun e w' => e = .returned (.tuple #[.int .i64 (perV y i n), .int .i64 (perE y i n)]) ∧ w' = w := by
  unfold in64 at hi
  unfold perV perE
  by_cases h : i < 1
  · rw [if_pos h, if_pos h]
    have H := Lib.hid (fun W => Sh.refBetween_any y (-1) 0 n W)
    go_enter Try.func13, Try.ntmps13
    go_wp2_with fail
    refine (H.out _).mono ?_
    rintro e w1 ⟨rfl, rfl⟩
    go_wp2
    go_ret2
    exact ⟨rfl, rfl⟩
  · rw [if_neg h, if_neg h]
    have hw : RowKit.wrap64 (i - 1) = i - 1 := wr64 (by unfold in64; omega)
    have H := Lib.hid (fun W => Sh.refBetween_any y (i - 1) i n W)
    go_enter Try.func13, Try.ntmps13
    go_wp2_with fail
    refine (H.out _).mono ?_
    rintro e w1 ⟨rfl, rfl⟩
    go_wp2
    go_ret2
    exact ⟨rfl, rfl⟩

/-- An hour's part. -/
def hourVE (y m : Int) : Int × Int := if Ra.fitsB y = true then (if m = 0 then (0, 22) else if m < 0 ∨ 10080 < m then (0, 2) else Ra.partVE y 60 (52 * m) 1) else (0, 2)

set_option maxHeartbeats 1000000 in
set_option maxRecDepth 100000 in
theorem Hourly_any (y m : Int) (w : World) : Calls Try.prog 19 #[.int .i64 y, .int .i64 m] w fun e w' => e = .returned (.tuple #[.int .i64 (hourVE y m).1, .int .i64 (hourVE y m).2]) ∧ Below w.heap.size w w' := by
  by_cases hf : Ra.fitsB y = true
  · by_cases h0 : m = 0
    · subst h0
      rw [show hourVE y 0 = (0, 22) by simp [hourVE, hf]]
      go_enter Try.func19, Try.ntmps19
      go_wp2_with fail
      refine (Ra.fits_any _ _).mono ?_
      rintro e w' ⟨rfl, rfl⟩
      rw [hf]
      go_wp2
      go_ret2
      exact ⟨rfl, Below.refl _ _⟩
    · by_cases h1 : m < 0 ∨ 10080 < m
      · rw [show hourVE y m = (0, 2) by simp [hourVE, hf, h0, h1]]
        rcases (show m < 0 ∨ ¬ m < 0 ∧ 10080 < m by omega) with h2 | ⟨h2, h3⟩
        all_goals
          go_enter Try.func19, Try.ntmps19
          go_wp2_with fail
          refine (Ra.fits_any _ _).mono ?_
          rintro e w' ⟨rfl, rfl⟩
          rw [hf]
          go_wp2
          go_ret2
          exact ⟨rfl, Below.refl _ _⟩
      · rw [show hourVE y m = Ra.partVE y 60 (52 * m) 1 by simp [hourVE, hf, h0, h1]]
        have h2 : ¬ m < 0 := by omega
        have h3 : ¬ 10080 < m := by omega
        have hw : RowKit.wrap64 (52 * m) = 52 * m := wr64 (by unfold in64; omega)
        have H := Lib.hid (fun W => Ra.part_any y 60 (52 * m) 1 (by omega) (by omega) (by omega) W)
        clear h1
        go_enter Try.func19, Try.ntmps19
        go_wp2_with fail
        refine (Ra.fits_any _ _).mono ?_
        rintro e w' ⟨rfl, rfl⟩
        rw [hf]
        go_wp2_with fail
        refine (H.out _).mono ?_
        rintro e w1 ⟨rfl, hb⟩
        go_wp2
        go_ret2
        exact ⟨rfl, hb⟩
  · simp only [Bool.not_eq_true] at hf
    rw [show hourVE y m = (0, 2) by simp [hourVE, hf]]
    go_enter Try.func19, Try.ntmps19
    go_wp2_with fail
    refine (Ra.fits_any _ _).mono ?_
    rintro e w' ⟨rfl, rfl⟩
    rw [hf]
    go_wp2
    go_ret2
    exact ⟨rfl, Below.refl _ _⟩

set_option maxHeartbeats 1000000 in
set_option maxRecDepth 100000 in
theorem rHourly_any (y m : Int) (w : World) : Calls Try.prog 20 #[.int .i64 y, .int .i64 m] w fun e w' => e = .returned (.tuple #[.int .i64 (hourVE y m).1, .int .i64 (hourVE y m).2]) ∧ Below w.heap.size w w' := by
  by_cases hf : Ra.fitsB y = true
  · by_cases h0 : m = 0
    · subst h0
      rw [show hourVE y 0 = (0, 22) by simp [hourVE, hf]]
      go_enter Try.func20, Try.ntmps20
      go_wp2_with fail
      refine (Ra.rfits2_any _ _).mono ?_
      rintro e w' ⟨rfl, rfl⟩
      rw [hf]
      go_wp2
      go_ret2
      exact ⟨rfl, Below.refl _ _⟩
    · by_cases h1 : m < 0 ∨ 10080 < m
      · rw [show hourVE y m = (0, 2) by simp [hourVE, hf, h0, h1]]
        rcases (show m < 0 ∨ ¬ m < 0 ∧ 10080 < m by omega) with h2 | ⟨h2, h3⟩
        all_goals
          go_enter Try.func20, Try.ntmps20
          go_wp2_with fail
          refine (Ra.rfits2_any _ _).mono ?_
          rintro e w' ⟨rfl, rfl⟩
          rw [hf]
          go_wp2
          go_ret2
          exact ⟨rfl, Below.refl _ _⟩
      · rw [show hourVE y m = Ra.partVE y 60 (52 * m) 1 by simp [hourVE, hf, h0, h1]]
        have h2 : ¬ m < 0 := by omega
        have h3 : ¬ 10080 < m := by omega
        have hw : RowKit.wrap64 (52 * m) = 52 * m := wr64 (by unfold in64; omega)
        have H := Lib.hid (fun W => Ra.rpart_any y 60 (52 * m) 1 (by omega) (by omega) (by omega) W)
        clear h1
        go_enter Try.func20, Try.ntmps20
        go_wp2_with fail
        refine (Ra.rfits2_any _ _).mono ?_
        rintro e w' ⟨rfl, rfl⟩
        rw [hf]
        go_wp2_with fail
        refine (H.out _).mono ?_
        rintro e w1 ⟨rfl, hb⟩
        go_wp2
        go_ret2
        exact ⟨rfl, hb⟩
  · simp only [Bool.not_eq_true] at hf
    rw [show hourVE y m = (0, 2) by simp [hourVE, hf]]
    go_enter Try.func20, Try.ntmps20
    go_wp2_with fail
    refine (Ra.rfits2_any _ _).mono ?_
    rintro e w' ⟨rfl, rfl⟩
    rw [hf]
    go_wp2
    go_ret2
    exact ⟨rfl, Below.refl _ _⟩

end Go.Proofs.Ytamglmenljgbdaa
