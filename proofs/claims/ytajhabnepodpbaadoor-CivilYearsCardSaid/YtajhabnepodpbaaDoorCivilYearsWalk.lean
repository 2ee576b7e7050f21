/-
  What is proved: the walk of the statement CivilYears: the call returns true. Conditions: the table of months' lengths reads as its text lays it.
-/
import Derived.Test.YtajhabnepodpbaaDoorCivWalk
namespace Go.Proofs.YtajhabnepodpbaaDoor
open Go Go.RowKit Go.Proofs
set_option linter.unusedVariables false

theorem leap_gap {y : Int} (h : lpB y = true) : lpB (y + 1) = false := by
  rw [lpB_iff] at h
  rw [Bool.eq_false_iff]
  intro k
  rw [lpB_iff] at k
  omega
theorem dim_same (y z m : Int) (h : m ≠ 2) : dim y m = dim z m := by unfold dim; rw [if_neg h, if_neg h]
theorem dim_feb (y : Int) : 28 ≤ dim y 2 := by have := dim_bd y 2; omega
/-- A year later. -/
theorem year_later {y m d : Int} (h : okB y m d = true) (hy : y ≤ 2198) (D : Int) (hD : (m = 2 ∧ d = 29 ∧ D = 28) ∨ (¬ (m = 2 ∧ d = 29) ∧ D = d)) : okB (y + 1) m D = true ∧ addM y m d 12 = num (y + 1) m D := by
  obtain ⟨a, b, c, e, f, g⟩ := okB_iff.1 h
  have hm := monN_bd a b c e
  have e1 : 1900 + (monN y m + 12) / 12 = y + 1 := by unfold monN; omega
  have e2 : (monN y m + 12) % 12 + 1 = m := by unfold monN; omega
  have n1 : ¬ (12 : Int) < -monN y m := by omega
  have n2 : ¬ 3600 - monN y m ≤ (12 : Int) := by unfold monN; omega
  have hd : min d (dim (y + 1) m) = D := by
    rcases hD with ⟨rfl, rfl, rfl⟩ | ⟨hne, rfl⟩
    · have hl : lpB y = true := by
        cases hb : lpB y with
        | true => rfl
        | false => unfold dim at g; rw [if_pos rfl, lp_no hb] at g; omega
      have hd2 : dim (y + 1) 2 = 28 := by unfold dim; rw [if_pos rfl, lp_no (leap_gap hl)]; rfl
      rw [hd2]; rfl
    · by_cases e : m = 2
      · subst e
        have h1 := dim_feb (y + 1)
        have h2 := dim_bd y 2
        have h3 : dim y 2 ≤ 29 := by unfold dim; rw [if_pos rfl]; have := lp_bd y; omega
        have : D ≤ 28 := by omega
        omega
      · rw [dim_same (y + 1) y m e]; omega
  have hok := add_ok h n1 n2
  rw [e1, e2, hd] at hok
  refine ⟨hok, ?_⟩
  unfold addM
  rw [if_neg n1, if_neg n2, e1, e2, hd]

set_option maxHeartbeats 1000000 in
set_option maxRecDepth 100000 in
theorem walkCivilYears (n : Int) (w : World) (w0 : (Lit.int .u32 n).wf = true) (hL : Len w) :
    Calls Tryd.prog 11 #[.int .u32 n] w fun e w' => e = .returned (.bool true) ∧ Below w.heap.size w w' := by
  obtain ⟨n1, n2⟩ := bounds_u32 w0
  obtain ⟨N, hN⟩ : ∃ N, N = -25567 + n % 109200 := ⟨_, rfl⟩
  have b1 : -25567 ≤ N := by omega
  have b2 : N ≤ 83632 := by omega
  obtain ⟨y, m, d, hok, hnum⟩ := date_of N b1 (by omega)
  obtain ⟨y1, y2, m1, m2, dd1, dd2⟩ := okB_iff.1 hok
  have hdb := dim_bd y m
  have hdd : d ≤ 31 := by omega
  have e0 : -25567 + n % 109200 = N := hN.symm
  have HT := Lib.hid (to_yes y m d N hok hnum)
  have hy98 : y ≤ 2198 := by
    have h1 := num_in hok
    have h2 : jan 2199 = 83641 := by decide
    by_cases e : y = 2199
    · subst e; omega
    · omega
  have HA := add_yes y m d N 12 hok hnum (by omega) (by omega)
  clear hN w0
  by_cases c1 : m = 2
  · subst c1
    by_cases c2 : d = 29
    · obtain ⟨ok2, ea⟩ := year_later hok hy98 28 (.inl ⟨rfl, c2, rfl⟩)
      rw [ea] at HA
      have HA2 := Lib.hid HA
      obtain ⟨P, hP⟩ : ∃ P, P = num (y + 1) 2 28 := ⟨_, rfl⟩
      have HT2 := Lib.hid (to_yes (y + 1) 2 28 P ok2 hP.symm)
      rw [← hP] at HA2
      subst c2
      clear ok2 hok hnum ea hP dd2 hdb HA
      go_enter Tryd.func11, Tryd.ntmps11
      go_wp2_with fail
      refine (HT.out _ hL).mono ?_
      rintro e w1 ⟨rfl, hb1⟩
      have hL1 := hL.below hb1 (Nat.le_refl _)
      go_wp2_with fail
      refine (HA2.out _ hL1).mono ?_
      rintro e w2 ⟨rfl, hb2⟩
      have hL2 := hL1.below hb2 (Nat.le_refl _)
      have hb12 := hb1.trans (hb2.mono hb1.size)
      clear hb1 hb2 hL1
      go_wp2_with fail
      refine (HT2.out _ hL2).mono ?_
      rintro e w3 ⟨rfl, hb3⟩
      have hb13 := hb12.trans (hb3.mono hb12.size)
      have hz : w.heap.size ≤ w3.heap.size := hb13.size
      have hb14 := (hb13.alloc hb13.size (.cells #[.int .i64 y, .int .i64 2, .int .i64 28] 23)).alloc (by simp; omega) (.cells #[.int .i64 (y + 1), .int .i64 2, .int .i64 28] 23)
      clear hb12 hb3 hL2 hb13
      go_wp2_with fail
      refine (awake_on hL hb14 (Nat.le_refl _) (by simp; omega)).mono ?_
      rintro e w4 ⟨rfl, hb4⟩
      go_wp2
      go_ret
      exact ⟨rfl, hb4⟩
    · obtain ⟨ok2, ea⟩ := year_later hok hy98 d (.inr ⟨fun h => c2 h.2, rfl⟩)
      rw [ea] at HA
      have HA2 := Lib.hid HA
      obtain ⟨P, hP⟩ : ∃ P, P = num (y + 1) 2 d := ⟨_, rfl⟩
      have HT2 := Lib.hid (to_yes (y + 1) 2 d P ok2 hP.symm)
      rw [← hP] at HA2
      have t2 : (d == 29) = false := by simp [c2]
      clear c2
      clear ok2 hok hnum ea hP dd2 hdb HA
      go_enter Tryd.func11, Tryd.ntmps11
      go_wp2_with fail
      refine (HT.out _ hL).mono ?_
      rintro e w1 ⟨rfl, hb1⟩
      have hL1 := hL.below hb1 (Nat.le_refl _)
      go_wp2_with fail
      refine (HA2.out _ hL1).mono ?_
      rintro e w2 ⟨rfl, hb2⟩
      have hL2 := hL1.below hb2 (Nat.le_refl _)
      have hb12 := hb1.trans (hb2.mono hb1.size)
      clear hb1 hb2 hL1
      go_wp2_with fail
      refine (HT2.out _ hL2).mono ?_
      rintro e w3 ⟨rfl, hb3⟩
      have hb13 := hb12.trans (hb3.mono hb12.size)
      have hz : w.heap.size ≤ w3.heap.size := hb13.size
      have hb14 := (hb13.alloc hb13.size (.cells #[.int .i64 y, .int .i64 2, .int .i64 d] 23)).alloc (by simp; omega) (.cells #[.int .i64 (y + 1), .int .i64 2, .int .i64 d] 23)
      clear hb12 hb3 hL2 hb13
      go_wp2_with fail
      refine (awake_on hL hb14 (Nat.le_refl _) (by simp; omega)).mono ?_
      rintro e w4 ⟨rfl, hb4⟩
      go_wp2
      go_ret
      exact ⟨rfl, hb4⟩
  · obtain ⟨ok2, ea⟩ := year_later hok hy98 d (.inr ⟨fun h => c1 h.1, rfl⟩)
    rw [ea] at HA
    have HA2 := Lib.hid HA
    obtain ⟨P, hP⟩ : ∃ P, P = num (y + 1) m d := ⟨_, rfl⟩
    have HT2 := Lib.hid (to_yes (y + 1) m d P ok2 hP.symm)
    rw [← hP] at HA2
    have t1 : (m == 2) = false := by simp [c1]
    clear c1
    clear ok2 hok hnum ea hP dd2 hdb HA
    go_enter Tryd.func11, Tryd.ntmps11
    go_wp2_with fail
    refine (HT.out _ hL).mono ?_
    rintro e w1 ⟨rfl, hb1⟩
    have hL1 := hL.below hb1 (Nat.le_refl _)
    go_wp2_with fail
    refine (HA2.out _ hL1).mono ?_
    rintro e w2 ⟨rfl, hb2⟩
    have hL2 := hL1.below hb2 (Nat.le_refl _)
    have hb12 := hb1.trans (hb2.mono hb1.size)
    clear hb1 hb2 hL1
    go_wp2_with fail
    refine (HT2.out _ hL2).mono ?_
    rintro e w3 ⟨rfl, hb3⟩
    have hb13 := hb12.trans (hb3.mono hb12.size)
    have hz : w.heap.size ≤ w3.heap.size := hb13.size
    have hb14 := (hb13.alloc hb13.size (.cells #[.int .i64 y, .int .i64 m, .int .i64 d] 23)).alloc (by simp; omega) (.cells #[.int .i64 (y + 1), .int .i64 m, .int .i64 d] 23)
    clear hb12 hb3 hL2 hb13
    go_wp2_with fail
    refine (awake_on hL hb14 (Nat.le_refl _) (by simp; omega)).mono ?_
    rintro e w4 ⟨rfl, hb4⟩
    go_wp2
    go_ret
    exact ⟨rfl, hb4⟩

end Go.Proofs.YtajhabnepodpbaaDoor
