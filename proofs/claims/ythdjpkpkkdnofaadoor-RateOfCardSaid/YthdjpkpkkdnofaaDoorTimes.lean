/-
  What is proved: the contract of rate.Times, by a plain function on whole numbers. Conditions: every number is of 64 bits.
-/
import Derived.Test.YthdjpkpkkdnofaaDoorRate
namespace Go.Proofs.YthdjpkpkkdnofaaDoor
open Go Go.RowKit Go.Proofs

/-- The rate a of the rate b. -/
def timesVE (a b : Int) : Int × Int :=
  if rightB a = true ∧ rightB b = true then (match portO a b 1000000 1 1000000000 with
    | none => (0, 9)
    | some p => (p, 0)) else (0, 2)

set_option maxHeartbeats 1000000 in
theorem times_any (a b : Int) (w : World) : Calls Tryd.prog 35 #[.int .i64 a, .int .i64 b] w fun e w' => e = .returned (.tuple #[.int .i64 (timesVE a b).1, .int .i64 (timesVE a b).2]) ∧ Below w.heap.size w w' := by
  by_cases ha : rightB a = true
  · by_cases hb : rightB b = true
    · obtain ⟨a1, a2⟩ := rightB_iff.1 ha
      obtain ⟨b1, b2⟩ := rightB_iff.1 hb
      have HP := portion_any a b 1000000 1 1000000000 (by omega) (by omega) (by omega) (by omega) (by omega) (by omega) (by omega) (by omega) (by omega) w
      rw [show Int.toNat 1000000 = 1000000 from rfl] at HP
      have hpv : timesVE a b = match portO a b 1000000 1 1000000000 with
        | none => (0, 9)
        | some p => (p, 0) := by unfold timesVE; rw [if_pos ⟨ha, hb⟩]
      rw [hpv]
      cases hO : portO a b 1000000 1 1000000000 with
      | none =>
        rw [hO] at HP
        have H := Lib.hid HP
        clear HP hpv hO
        simp only [portVE] at H
        go_enter Tryd.func35, Tryd.ntmps35
        go_wp2_with fail
        refine (right_any _ _).mono ?_
        rintro e w' ⟨rfl, rfl⟩
        go_wp2_with fail
        refine (right_any _ _).mono ?_
        rintro e w' ⟨rfl, rfl⟩
        go_wp2_with fail
        refine (H.out).mono ?_
        rintro e w1 ⟨rfl, hb⟩
        go_wp2
        go_ret2
        exact ⟨rfl, hb⟩
      | some p =>
        rw [hO] at HP
        have H := Lib.hid HP
        clear HP hpv hO
        simp only [portVE] at H
        go_enter Tryd.func35, Tryd.ntmps35
        go_wp2_with fail
        refine (right_any _ _).mono ?_
        rintro e w' ⟨rfl, rfl⟩
        go_wp2_with fail
        refine (right_any _ _).mono ?_
        rintro e w' ⟨rfl, rfl⟩
        go_wp2_with fail
        refine (H.out).mono ?_
        rintro e w1 ⟨rfl, hb⟩
        go_wp2
        go_ret2
        exact ⟨rfl, hb⟩
    · simp only [Bool.not_eq_true] at hb
      rw [show timesVE a b = (0, 2) by simp [timesVE, hb]]
      go_enter Tryd.func35, Tryd.ntmps35
      go_wp2_with fail
      refine (right_any _ _).mono ?_
      rintro e w' ⟨rfl, rfl⟩
      go_wp2_with fail
      refine (right_any _ _).mono ?_
      rintro e w' ⟨rfl, rfl⟩
      go_wp2
      go_ret2
      exact ⟨rfl, Below.refl _ _⟩
  · simp only [Bool.not_eq_true] at ha
    rw [show timesVE a b = (0, 2) by simp [timesVE, ha]]
    go_enter Tryd.func35, Tryd.ntmps35
    go_wp2_with fail
    refine (right_any _ _).mono ?_
    rintro e w' ⟨rfl, rfl⟩
    go_wp2
    go_ret2
    exact ⟨rfl, Below.refl _ _⟩

end Go.Proofs.YthdjpkpkkdnofaaDoor
