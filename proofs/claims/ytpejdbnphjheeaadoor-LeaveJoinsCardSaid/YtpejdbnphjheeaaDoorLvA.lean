/-
  What is proved: the contracts of civil.isLeap, MonthDays, newYear, inCalendar and Weekday. Conditions: the table of months' lengths reads as its text lays it; years as each says.
-/
import Derived.Test.YtpejdbnphjheeaaDoorRows
import Derived.Test.YtpejdbnphjheeaaDoorLvMath
import Derived.WalkKit
import Derived.WalkSpells
import Derived.WalkLawsBesides
import Derived.Lib.Hide
import Derived.Below
import Derived.Laws.OwnMore
import Derived.Deep.QuietTactic
import Derived.BigQuiet
import Derived.IntWalk
namespace Go.Proofs.YtpejdbnphjheeaaDoor.Cv
open Go Go.RowKit Go.Proofs

/-- The table of months' lengths lies as its text says. -/
def Len (w : World) : Prop := ∀ k : Nat, k < 12 → w.cell? ⟨0, k, none⟩ = some (.int .i64 (lenM ((k : Int) + 1)))
theorem Len.below {B : Nat} {w w' : World} (h : Len w) (hb : Below B w w') (hB : w.heap.size ≤ B) : Len w' := fun k hk => by
  have h1 := h k hk
  have h2 := World.block_lt_of_cell? w _ h1
  rw [hb.cell (p := ⟨0, k, none⟩) (by show 0 < B; have : 0 < w.heap.size := h2; omega)]
  exact h1
theorem Len.drewN {w : World} (h : Len w) (n : Nat) : Len (w.drewN n) := h
theorem Len.alloc {w : World} (h : Len w) (o : Obj) : Len (w.alloc o) := h.below ((Below.refl w.heap.size w).alloc (Nat.le_refl _) o) (Nat.le_refl _)

set_option maxHeartbeats 1000000 in
theorem leap_any (y : Int) (h0 : 0 ≤ y) (w : World) : Calls Tryd.prog 48 #[.int .i64 y] w fun e w' => e = .returned (.bool (lpB y)) ∧ w = w' := by
  by_cases h4 : y % 4 = 0
  · have d4 : (y % 4 == 0) = true := by simp [h4]
    by_cases h1 : y % 100 = 0
    · have d1 : (y % 100 != 0) = false := by simp [h1]
      by_cases h2 : y % 400 = 0
      · rw [show lpB y = true by simp [lpB, h4, h2]]
        have d2 : (y % 400 == 0) = true := by simp [h2]
        clear h4 h1 h2
        go_enter Tryd.func48, Tryd.ntmps48
        go_wp2
        go_ret
        exact ⟨rfl, rfl⟩
      · rw [show lpB y = false by simp [lpB, h1, h2]]
        have d2 : (y % 400 == 0) = false := by simp [h2]
        clear h4 h1 h2
        go_enter Tryd.func48, Tryd.ntmps48
        go_wp2
        go_ret
        exact ⟨rfl, rfl⟩
    · rw [show lpB y = true by simp [lpB, h4, h1]]
      have d1 : (y % 100 != 0) = true := by simp [h1]
      clear h4 h1
      go_enter Tryd.func48, Tryd.ntmps48
      go_wp2
      go_ret
      exact ⟨rfl, rfl⟩
  · rw [show lpB y = false by simp [lpB, h4]]
    have d4 : (y % 4 == 0) = false := by simp [h4]
    clear h4
    go_enter Tryd.func48, Tryd.ntmps48
    go_wp2
    go_ret
    exact ⟨rfl, rfl⟩

theorem md_two {y : Int} (a : 1900 ≤ y) (b : y ≤ 2199) : mdV y 2 = if lpB y = true then 29 else 28 := by
  rw [mdV_in a b (by omega) (by omega)]
  unfold dim lp
  simp only [if_true]
  split <;> rfl
theorem md_other {y m : Int} (a : 1900 ≤ y) (b : y ≤ 2199) (c : 1 ≤ m) (d : m ≤ 12) (e : m ≠ 2) : mdV y m = lenM m := by
  rw [mdV_in a b c d]
  unfold dim
  rw [if_neg e]

set_option maxHeartbeats 1000000 in
theorem md_any (y m : Int) (w : World) (hL : Len w) : Calls Tryd.prog 33 #[.int .i64 y, .int .i64 m] w fun e w' => e = .returned (.int .i64 (mdV y m)) ∧ w = w' := by
  by_cases h1 : y < 1900
  · rw [mdV_out (by omega)]
    have d1 : decide (y < 1900) = true := decide_eq_true h1
    go_enter Tryd.func33, Tryd.ntmps33
    go_wp2
    go_ret
    exact ⟨rfl, rfl⟩
  have d1 : decide (y < 1900) = false := decide_eq_false h1
  by_cases h2 : 2199 < y
  · rw [mdV_out (by omega)]
    have d2 : decide (2199 < y) = true := decide_eq_true h2
    go_enter Tryd.func33, Tryd.ntmps33
    go_wp2
    go_ret
    exact ⟨rfl, rfl⟩
  have d2 : decide (2199 < y) = false := decide_eq_false h2
  by_cases h3 : m < 1
  · rw [mdV_out (by omega)]
    have d3 : decide (m < 1) = true := decide_eq_true h3
    go_enter Tryd.func33, Tryd.ntmps33
    go_wp2
    go_ret
    exact ⟨rfl, rfl⟩
  have d3 : decide (m < 1) = false := decide_eq_false h3
  by_cases h4 : 12 < m
  · rw [mdV_out (by omega)]
    have d4 : decide (12 < m) = true := decide_eq_true h4
    go_enter Tryd.func33, Tryd.ntmps33
    go_wp2
    go_ret
    exact ⟨rfl, rfl⟩
  have d4 : decide (12 < m) = false := decide_eq_false h4
  have hlen : 28 ≤ lenM m ∧ lenM m ≤ 31 := by unfold lenM; repeat' split
                                              all_goals omega
  have hcell : w.cell? ⟨0, m.toNat - 1, none⟩ = some (.int .i64 (lenM m)) := by
    have := hL (m.toNat - 1) (by omega)
    rwa [show (((m.toNat - 1 : Nat) : Int) + 1) = m by omega] at this
  have hm1 : m - 1 < 12 := by omega
  have hm0 : 0 ≤ m - 1 := by omega
  by_cases h5 : m = 2
  · subst h5
    rw [md_two (by omega) (by omega)]
    rw [show lenM 2 = 28 from rfl] at hcell
    have hcell1 : w.cell? ⟨0, 1, none⟩ = some (.int .i64 28) := hcell
    clear hcell hlen
    cases hb : lpB y with
    | true =>
      have hl := leap_any y (by omega)
      rw [hb] at hl
      have HL := Lib.hid hl
      clear hl hb
      simp only [if_true]
      go_enter Tryd.func33, Tryd.ntmps33
      go_wp2_with (go_at_call 48; refine (HL.out _).mono ?_; rintro e w' ⟨rfl, rfl⟩)
      go_ret
      exact ⟨rfl, rfl⟩
    | false =>
      have hl := leap_any y (by omega)
      rw [hb] at hl
      have HL := Lib.hid hl
      clear hl hb
      simp only [Bool.false_eq_true, if_false]
      go_enter Tryd.func33, Tryd.ntmps33
      go_wp2_with (go_at_call 48; refine (HL.out _).mono ?_; rintro e w' ⟨rfl, rfl⟩)
      go_ret
      exact ⟨rfl, rfl⟩
  · rw [md_other (by omega) (by omega) (by omega) (by omega) h5]
    have d5 : (m == 2) = false := by simp [h5]
    have hm2 : 1 ≤ m := by omega
    have hm3 : m ≤ 12 := by omega
    generalize lenM m = L at hcell hlen ⊢
    go_enter Tryd.func33, Tryd.ntmps33
    go_wp2
    go_ret
    exact ⟨rfl, rfl⟩

theorem jan_any (y : Int) (h0 : 1900 ≤ y) (h1 : y ≤ 2200) (w : World) : Calls Tryd.prog 32 #[.int .i64 y] w fun e w' => e = .returned (.int .i64 (jan y)) ∧ w = w' := by
  unfold jan
  go_enter Tryd.func32, Tryd.ntmps32
  go_wp2
  go_ret
  exact ⟨rfl, rfl⟩

/-- A day is in the calendar. -/
def inB (n : Int) : Bool := decide (-25567 ≤ n) && decide (n ≤ 84005)
theorem inB_yes {n : Int} (h1 : -25567 ≤ n) (h2 : n ≤ 84005) : inB n = true := by simp [inB, h1, h2]
theorem inB_no {n : Int} (h : n < -25567 ∨ 84005 < n) : inB n = false := by
  simp only [inB, Bool.and_eq_false_iff, decide_eq_false_iff_not]; omega
theorem inB_iff {n : Int} : inB n = true ↔ -25567 ≤ n ∧ n ≤ 84005 := by simp [inB]
theorem in_any (n : Int) (w : World) : Calls Tryd.prog 31 #[.int .i64 n] w fun e w' => e = .returned (.bool (inB n)) ∧ w = w' := by
  by_cases h1 : -25567 ≤ n
  · by_cases h2 : n ≤ 84005
    · rw [inB_yes h1 h2]
      go_enter Tryd.func31, Tryd.ntmps31
      go_wp2
      go_ret
      exact ⟨rfl, rfl⟩
    · rw [inB_no (by omega)]
      go_enter Tryd.func31, Tryd.ntmps31
      go_wp2
      go_ret
      exact ⟨rfl, rfl⟩
  · rw [inB_no (by omega)]
    go_enter Tryd.func31, Tryd.ntmps31
    go_wp2
    go_ret
    exact ⟨rfl, rfl⟩

/-- A day's weekday. -/
def wkV (n : Int) : Int := if inB n = true then (n + 25567) % 7 else -1
theorem wk_any (n : Int) (w : World) : Calls Tryd.prog 46 #[.int .i64 n] w fun e w' => e = .returned (.int .i64 (wkV n)) ∧ w = w' := by
  have H := in_any n
  unfold wkV
  cases hb : inB n with
  | true =>
    rw [hb] at H
    obtain ⟨h1, h2⟩ := inB_iff.1 hb
    have HI := Lib.hid H
    clear H hb
    simp only [if_true]
    go_enter Tryd.func46, Tryd.ntmps46
    go_wp2_with (go_at_call 31; refine (HI.out _).mono ?_; rintro e w' ⟨rfl, rfl⟩)
    go_ret
    exact ⟨rfl, rfl⟩
  | false =>
    rw [hb] at H
    have HI := Lib.hid H
    clear H hb
    simp only [Bool.false_eq_true, if_false]
    go_enter Tryd.func46, Tryd.ntmps46
    go_wp2_with (go_at_call 31; refine (HI.out _).mono ?_; rintro e w' ⟨rfl, rfl⟩)
    go_ret
    exact ⟨rfl, rfl⟩

end Go.Proofs.YtpejdbnphjheeaaDoor.Cv
