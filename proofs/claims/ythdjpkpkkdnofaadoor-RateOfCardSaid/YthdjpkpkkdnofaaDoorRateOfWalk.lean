/-
  What is proved: the walk of the statement RateOf: the call returns true. Conditions: the table of powers of ten reads as the library lays it.
-/
import Derived.Test.YthdjpkpkkdnofaaDoorRateTell
import Derived.Test.YthdjpkpkkdnofaaDoorRefPart2
namespace Go.Proofs.YthdjpkpkkdnofaaDoor
open Go Go.RowKit Go.Lib Go.Proofs
set_option linter.unusedVariables false

theorem rright_any (c : Int) (w : World) : Calls Tryd.prog 38 #[.int .i64 c] w fun e w' => e = .returned (.bool (rightB c)) ∧ w = w' := by
  by_cases h1 : -1000000000 ≤ c
  · by_cases h2 : c ≤ 1000000000
    · rw [rightB_yes h1 h2]
      go_enter Tryd.func38, Tryd.ntmps38
      go_wp2
      go_ret
      exact ⟨rfl, rfl⟩
    · rw [rightB_no (by omega)]
      go_enter Tryd.func38, Tryd.ntmps38
      go_wp2
      go_ret
      exact ⟨rfl, rfl⟩
  · rw [rightB_no (by omega)]
    go_enter Tryd.func38, Tryd.ntmps38
    go_wp2
    go_ret
    exact ⟨rfl, rfl⟩

theorem partE_bd (c num den mode : Int) : 0 ≤ (partVE c num den mode).2 ∧ (partVE c num den mode).2 ≤ 22 := by
  unfold partVE
  repeat' split
  all_goals simp
theorem ofE_bd (c r mode : Int) : 0 ≤ (ofVE c r mode).2 ∧ (ofVE c r mode).2 ≤ 22 := by
  unfold ofVE
  split
  · exact partE_bd _ _ _ _
  · simp
theorem timesE_bd (a b : Int) : 0 ≤ (timesVE a b).2 ∧ (timesVE a b).2 ≤ 22 := by
  unfold timesVE
  repeat' split
  all_goals simp

set_option maxHeartbeats 1000000 in
theorem rof_any (c r mode : Int) (w : World) : Calls Tryd.prog 34 #[.int .i64 c, .int .i64 r, .int .i64 mode] w fun e w' => e = .returned (.tuple #[.int .i64 (ofVE c r mode).1, .int .i64 (ofVE c r mode).2]) ∧ Below w.heap.size w w' := by
  by_cases hf : fitsB c = true
  · by_cases hr : rightB r = true
    · obtain ⟨f1, f2⟩ := rightB_iff.1 hr
      rw [show ofVE c r mode = partVE c r 1000000 mode by simp [ofVE, hr]]
      have H := Lib.hid (rpart_any c r 1000000 mode (by omega) (by omega) (by omega) w)
      go_enter Tryd.func34, Tryd.ntmps34
      go_wp2_with fail
      refine (rfits2_any _ _).mono ?_
      rintro e w' ⟨rfl, rfl⟩
      go_wp2_with fail
      refine (rright_any _ _).mono ?_
      rintro e w' ⟨rfl, rfl⟩
      go_wp2_with fail
      refine (H.out).mono ?_
      rintro e w1 ⟨rfl, hb⟩
      go_wp2
      go_ret2
      exact ⟨rfl, hb⟩
    · simp only [Bool.not_eq_true] at hr
      rw [show ofVE c r mode = (0, 2) by simp [ofVE, hr]]
      go_enter Tryd.func34, Tryd.ntmps34
      go_wp2_with fail
      refine (rfits2_any _ _).mono ?_
      rintro e w' ⟨rfl, rfl⟩
      go_wp2_with fail
      refine (rright_any _ _).mono ?_
      rintro e w' ⟨rfl, rfl⟩
      go_wp2
      go_ret2
      exact ⟨rfl, Below.refl _ _⟩
  · simp only [Bool.not_eq_true] at hf
    rw [show ofVE c r mode = (0, 2) by simp [ofVE, partVE, hf]]
    go_enter Tryd.func34, Tryd.ntmps34
    go_wp2_with fail
    refine (rfits2_any _ _).mono ?_
    rintro e w' ⟨rfl, rfl⟩
    go_wp2
    go_ret2
    exact ⟨rfl, Below.refl _ _⟩

/-- The product of two rates, as a part: it always fits. -/
theorem times_part (a b : Int) (ha : rightB a = true) (hb : rightB b = true) : ∃ p, partVE a b 1000000 1 = (p, 0) ∧ timesVE a b = if rightB p = true then (p, 0) else (0, 9) := by
  obtain ⟨a1, a2⟩ := rightB_iff.1 ha
  obtain ⟨b1, b2⟩ := rightB_iff.1 hb
  have hv := partVE_val a b 1000000 1 (fitsB_yes (by omega) (by omega)) (by omega) (by omega) (by omega)
  rw [show Int.toNat 1000000 = 1000000 from rfl] at hv
  have hh := rnd_half 1000000 (a * b) (by omega)
  have hN : (a * b).natAbs ≤ 1000000000 * 1000000000 := by
    rw [Int.natAbs_mul]
    exact Nat.mul_le_mul (by omega) (by omega)
  refine ⟨rnd 1 1000000 (a * b), ?_, ?_⟩
  · rw [hv, if_pos]
    generalize rnd 1 1000000 (a * b) = p at hh ⊢
    generalize a * b = N at hh hN
    omega
  · unfold timesVE
    rw [if_pos ⟨ha, hb⟩, port_rnd a b 1000000 1 1000000000 (by omega)]
    by_cases h : (rnd 1 1000000 (a * b)).natAbs ≤ 1000000000
    · rw [if_pos h, if_pos (rightB_yes (by omega) (by omega))]
    · rw [if_neg h, if_neg]
      rw [rightB_iff]; omega

set_option maxHeartbeats 1000000 in
theorem rtimes_any (a b : Int) (w : World) : Calls Tryd.prog 36 #[.int .i64 a, .int .i64 b] w fun e w' => e = .returned (.tuple #[.int .i64 (timesVE a b).1, .int .i64 (timesVE a b).2]) ∧ Below w.heap.size w w' := by
  by_cases ha : rightB a = true
  · by_cases hb : rightB b = true
    · obtain ⟨a1, a2⟩ := rightB_iff.1 ha
      obtain ⟨b1, b2⟩ := rightB_iff.1 hb
      obtain ⟨p, hp, ht⟩ := times_part a b ha hb
      have HP := rpart_any a b 1000000 1 (by omega) (by omega) (by omega) w
      rw [hp] at HP
      rw [ht]
      have H := Lib.hid HP
      clear HP hp ht
      by_cases hr : rightB p = true
      · rw [if_pos hr]
        go_enter Tryd.func36, Tryd.ntmps36
        go_wp2_with fail
        refine (rright_any _ _).mono ?_
        rintro e w' ⟨rfl, rfl⟩
        go_wp2_with fail
        refine (rright_any _ _).mono ?_
        rintro e w' ⟨rfl, rfl⟩
        go_wp2_with fail
        refine (H.out).mono ?_
        rintro e w1 ⟨rfl, hb⟩
        go_wp2_with fail
        refine (rright_any _ _).mono ?_
        rintro e w' ⟨rfl, rfl⟩
        go_wp2
        go_ret2
        exact ⟨rfl, hb⟩
      · rw [if_neg hr]
        simp only [Bool.not_eq_true] at hr
        go_enter Tryd.func36, Tryd.ntmps36
        go_wp2_with fail
        refine (rright_any _ _).mono ?_
        rintro e w' ⟨rfl, rfl⟩
        go_wp2_with fail
        refine (rright_any _ _).mono ?_
        rintro e w' ⟨rfl, rfl⟩
        go_wp2_with fail
        refine (H.out).mono ?_
        rintro e w1 ⟨rfl, hb⟩
        go_wp2_with fail
        refine (rright_any _ _).mono ?_
        rintro e w' ⟨rfl, rfl⟩
        go_wp2
        go_ret2
        exact ⟨rfl, hb⟩
    · simp only [Bool.not_eq_true] at hb
      rw [show timesVE a b = (0, 2) by simp [timesVE, hb]]
      go_enter Tryd.func36, Tryd.ntmps36
      go_wp2_with fail
      refine (rright_any _ _).mono ?_
      rintro e w' ⟨rfl, rfl⟩
      go_wp2_with fail
      refine (rright_any _ _).mono ?_
      rintro e w' ⟨rfl, rfl⟩
      go_wp2
      go_ret2
      exact ⟨rfl, Below.refl _ _⟩
  · simp only [Bool.not_eq_true] at ha
    rw [show timesVE a b = (0, 2) by simp [timesVE, ha]]
    go_enter Tryd.func36, Tryd.ntmps36
    go_wp2_with fail
    refine (rright_any _ _).mono ?_
    rintro e w' ⟨rfl, rfl⟩
    go_wp2
    go_ret2
    exact ⟨rfl, Below.refl _ _⟩

set_option maxHeartbeats 1000000 in
set_option maxRecDepth 100000 in
theorem walkRateOf (c r s mode : Int) (w : World) (w0 : (Lit.int .i64 c).wf = true) (w1 : (Lit.int .i64 r).wf = true) (w2 : (Lit.int .i64 s).wf = true) (w3 : (Lit.int .i64 mode).wf = true) (htab : TabIs Tryd.prog w "internal/strconv.uint64pow10" .u64 pow10Tab) :
    Calls Tryd.prog 11 #[.int .i64 c, .int .i64 r, .int .i64 s, .int .i64 mode] w fun e w' => e = .returned (.bool true) ∧ Below w.heap.size w w' := by
  have HW := Lib.hid (awake2 w htab)
  clear w0 w1 w2 w3
  obtain ⟨x, ex, hx⟩ : ∃ x e, ofVE c r mode = (x, e) := ⟨_, _, rfl⟩
  obtain ⟨t, et, ht⟩ : ∃ x e, timesVE r s = (x, e) := ⟨_, _, rfl⟩
  have bd := ofE_bd c r mode
  have bt := timesE_bd r s
  have t1 := fun W => of_any c r mode W
  have t2 := fun W => rof_any c r mode W
  have t3 := fun W => times_any r s W
  have t4 := fun W => rtimes_any r s W
  simp only [hx] at t1 t2 bd
  simp only [ht] at t3 t4 bt
  obtain ⟨b1, b2⟩ := bd
  obtain ⟨b3, b4⟩ := bt
  have H1 := Lib.hid t1
  have H2 := Lib.hid t2
  have H3 := Lib.hid t3
  have H4 := Lib.hid t4
  clear t1 t2 t3 t4 hx ht
  go_enter Tryd.func11, Tryd.ntmps11
  go_wp2_with fail
  refine (HW.out).mono ?_
  rintro e' wa ⟨rfl, hba⟩
  go_wp2_with fail
  refine (H1.out _).mono ?_
  rintro e' wb ⟨rfl, hbb⟩
  have k1 := hba.trans (hbb.mono hba.size)
  go_wp2_with fail
  refine (H2.out _).mono ?_
  rintro e' wc ⟨rfl, hbc⟩
  have k2 := k1.trans (hbc.mono k1.size)
  go_wp2_with fail
  refine (H3.out _).mono ?_
  rintro e' wd ⟨rfl, hbd⟩
  have k3 := k2.trans (hbd.mono k2.size)
  go_wp2_with fail
  refine (H4.out _).mono ?_
  rintro e' we ⟨rfl, hbe⟩
  have k4 := k3.trans (hbe.mono k3.size)
  go_wp2
  go_ret
  exact ⟨rfl, k4⟩

end Go.Proofs.YthdjpkpkkdnofaaDoor
