/-
  What is proved: the contracts of the document's own Leap, Month, year and In of the calendar. Conditions: years as each says.
-/
import Derived.Test.YtpejdbnphjheeaaDoorLvB
import Derived.Deep.RegionHeld3
import Derived.Deep.DeepCutAuto
namespace Go.Proofs.YtpejdbnphjheeaaDoor.Cv
open Go Go.RowKit Go.Proofs

set_option maxHeartbeats 1000000 in
theorem rleap_any (y : Int) (h0 : 0 ≤ y) (w : World) : Calls Tryd.prog 44 #[.int .i64 y] w fun e w' => e = .returned (.bool (lpB y)) ∧ w = w' := by
  by_cases h4 : y % 4 = 0
  · have d4 : (y % 4 == 0) = true := by simp [h4]
    by_cases h1 : y % 100 = 0
    · have d1 : (y % 100 != 0) = false := by simp [h1]
      by_cases h2 : y % 400 = 0
      · rw [show lpB y = true by simp [lpB, h4, h2]]
        have d2 : (y % 400 == 0) = true := by simp [h2]
        clear h4 h1 h2
        go_enter Tryd.func44, Tryd.ntmps44
        go_wp2
        go_ret
        exact ⟨rfl, rfl⟩
      · rw [show lpB y = false by simp [lpB, h1, h2]]
        have d2 : (y % 400 == 0) = false := by simp [h2]
        clear h4 h1 h2
        go_enter Tryd.func44, Tryd.ntmps44
        go_wp2
        go_ret
        exact ⟨rfl, rfl⟩
    · rw [show lpB y = true by simp [lpB, h4, h1]]
      have d1 : (y % 100 != 0) = true := by simp [h1]
      clear h4 h1
      go_enter Tryd.func44, Tryd.ntmps44
      go_wp2
      go_ret
      exact ⟨rfl, rfl⟩
  · rw [show lpB y = false by simp [lpB, h4]]
    have d2 : (y % 400 == 0) = false := by rw [beq_eq_false_iff_ne]; omega
    have d4 : (y % 4 == 0) = false := by simp [h4]
    clear h4
    go_enter Tryd.func44, Tryd.ntmps44
    go_wp2
    go_ret
    exact ⟨rfl, rfl⟩

/-- How many days a year has. -/
def yearV (y : Int) : Int := 365 + lp y
theorem ryear_any (y : Int) (h0 : 0 ≤ y) (w : World) : Calls Tryd.prog 26 #[.int .i64 y] w fun e w' => e = .returned (.int .i64 (yearV y)) ∧ w = w' := by
  have H := rleap_any y h0
  unfold yearV
  cases hb : lpB y with
  | true =>
    rw [lp_yes hb]
    rw [hb] at H
    have HI := Lib.hid H
    clear H hb
    go_enter Tryd.func26, Tryd.ntmps26
    go_wp2_with (go_at_call 44; refine (HI.out _).mono ?_; rintro e w' ⟨rfl, rfl⟩)
    go_ret
    exact ⟨rfl, rfl⟩
  | false =>
    rw [lp_no hb]
    rw [hb] at H
    have HI := Lib.hid H
    clear H hb
    go_enter Tryd.func26, Tryd.ntmps26
    go_wp2_with (go_at_call 44; refine (HI.out _).mono ?_; rintro e w' ⟨rfl, rfl⟩)
    go_ret
    exact ⟨rfl, rfl⟩

theorem rin_any (n : Int) (w : World) : Calls Tryd.prog 23 #[.int .i64 n] w fun e w' => e = .returned (.bool (inB n)) ∧ w = w' := by
  by_cases h1 : -25567 ≤ n
  · by_cases h2 : n ≤ 84005
    · rw [inB_yes h1 h2]
      go_enter Tryd.func23, Tryd.ntmps23
      go_wp2
      go_ret
      exact ⟨rfl, rfl⟩
    · rw [inB_no (by omega)]
      go_enter Tryd.func23, Tryd.ntmps23
      go_wp2
      go_ret
      exact ⟨rfl, rfl⟩
  · rw [inB_no (by omega)]
    go_enter Tryd.func23, Tryd.ntmps23
    go_wp2
    go_ret
    exact ⟨rfl, rfl⟩
theorem len_cell (m : Int) (h1 : 1 ≤ m) (h2 : m ≤ 12) : (#[Value.int .i64 31, .int .i64 28, .int .i64 31, .int .i64 30, .int .i64 31, .int .i64 30, .int .i64 31, .int .i64 31, .int .i64 30, .int .i64 31, .int .i64 30, .int .i64 31] : Array Value)[m.toNat - 1]? = some (.int .i64 (lenM m)) := by
  have h : m = 1 ∨ m = 2 ∨ m = 3 ∨ m = 4 ∨ m = 5 ∨ m = 6 ∨ m = 7 ∨ m = 8 ∨ m = 9 ∨ m = 10 ∨ m = 11 ∨ m = 12 := by omega
  rcases h with rfl | rfl | rfl | rfl | rfl | rfl | rfl | rfl | rfl | rfl | rfl | rfl <;> rfl

set_option maxHeartbeats 1000000 in
set_option maxRecDepth 100000 in
theorem rmonth_any (y m : Int) (w : World) : Calls Tryd.prog 25 #[.int .i64 y, .int .i64 m] w fun e w' => e = .returned (.int .i64 (mdV y m)) ∧ Below w.heap.size w w' := by
  by_cases h1 : y < 1900
  · rw [mdV_out (by omega)]
    have d1 : decide (y < 1900) = true := decide_eq_true h1
    go_enter Tryd.func25, Tryd.ntmps25
    go_wp2
    go_ret
    exact ⟨rfl, Below.refl _ _⟩
  have d1 : decide (y < 1900) = false := decide_eq_false h1
  by_cases h2 : 2199 < y
  · rw [mdV_out (by omega)]
    have d2 : decide (2199 < y) = true := decide_eq_true h2
    go_enter Tryd.func25, Tryd.ntmps25
    go_wp2
    go_ret
    exact ⟨rfl, Below.refl _ _⟩
  have d2 : decide (2199 < y) = false := decide_eq_false h2
  by_cases h3 : m < 1
  · rw [mdV_out (by omega)]
    have d3 : decide (m < 1) = true := decide_eq_true h3
    go_enter Tryd.func25, Tryd.ntmps25
    go_wp2
    go_ret
    exact ⟨rfl, Below.refl _ _⟩
  have d3 : decide (m < 1) = false := decide_eq_false h3
  by_cases h4 : 12 < m
  · rw [mdV_out (by omega)]
    have d4 : decide (12 < m) = true := decide_eq_true h4
    go_enter Tryd.func25, Tryd.ntmps25
    go_wp2
    go_ret
    exact ⟨rfl, Below.refl _ _⟩
  have d4 : decide (12 < m) = false := decide_eq_false h4
  have hm1 : m - 1 < 12 := by omega
  have hm0 : 0 ≤ m - 1 := by omega
  have hm2 : 1 ≤ m := by omega
  have hm3 : m ≤ 12 := by omega
  by_cases h5 : m = 2
  · subst h5
    rw [md_two (by omega) (by omega)]
    cases hb : lpB y with
    | true =>
      have hl := rleap_any y (by omega)
      rw [hb] at hl
      have HL := Lib.hid hl
      clear hl hb
      simp only [if_true]
      go_enter Tryd.func25, Tryd.ntmps25
      go_wp2_with (go_at_call 44; refine (HL.out _).mono ?_; rintro e w' ⟨rfl, rfl⟩)
      go_ret
      exact ⟨rfl, Below.refl _ _⟩
    | false =>
      have hl := rleap_any y (by omega)
      rw [hb] at hl
      have HL := Lib.hid hl
      clear hl hb
      simp only [Bool.false_eq_true, if_false]
      go_enter Tryd.func25, Tryd.ntmps25
      go_wp2_with (go_at_call 44; refine (HL.out _).mono ?_; rintro e w' ⟨rfl, rfl⟩)
      go_ret
      exact ⟨rfl, (Below.refl _ _).alloc (Nat.le_refl _) _⟩
  · rw [md_other (by omega) (by omega) (by omega) (by omega) h5]
    have d5 : (m == 2) = false := by simp [h5]
    have hcell := len_cell m hm2 hm3
    generalize lenM m = L at hcell ⊢
    go_enter Tryd.func25, Tryd.ntmps25
    go_wp2
    go_ret
    exact ⟨rfl, (Below.refl _ _).alloc (Nat.le_refl _) _⟩

end Go.Proofs.YtpejdbnphjheeaaDoor.Cv
