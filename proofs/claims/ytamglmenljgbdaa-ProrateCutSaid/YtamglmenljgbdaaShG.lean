/-
  What is proved: the contracts of share.Between and of the document's own Between. Conditions: none.
-/
import Derived.Test.YtamglmenljgbdaaShF
namespace Go.Proofs.Ytamglmenljgbdaa.Sh
open Go Go.RowKit Go.Proofs

theorem bet_code {t a b f : Int} {E : Int} (h : betE t a b f = E) (hE : E ≠ 0) : betR t a b f = 0 := by unfold betR; rw [if_neg (by rw [h]; exact hE)]
theorem up_small (t a f : Int) (h : fitB t = true) (_ : 0 ≤ a) (h1 : a ≤ f) : -1125899906842625 ≤ upV t a f ∧ upV t a f ≤ 1125899906842625 := by
  have ht : -1125899906842624 ≤ t ∧ t ≤ 1125899906842624 := by simpa [fitB] using h
  have hb := half_le t.natAbs a.toNat f.toNat (by omega)
  unfold upV sg
  split <;> omega
set_option maxHeartbeats 2000000 in
theorem Between_any (t a b f : Int) (w : World) : Calls Try.prog 21 #[.int .i64 t, .int .i64 a, .int .i64 b, .int .i64 f] w fun e w' => e = .returned (.tuple #[.int .i64 (betR t a b f), .int .i64 (betE t a b f)]) ∧ ∃ n, w' = w.drewN n := by
  have HWH := Lib.hid (whole_any t f)
  by_cases h0 : wholeE t f = 0
  case neg =>
    have hE : betE t a b f = wholeE t f := by simp [betE, h0]
    rw [bet_code hE h0, hE]
    clear hE
    generalize wholeE t f = E at HWH h0 ⊢
    have dE : (E != 0) = true := by simp [h0]
    go_enter Try.func21, Try.ntmps21
    go_wp2_with fail
    refine (HWH.out _).mono ?_
    rintro e w1 ⟨rfl, hw⟩
    rw [hw]
    clear hw
    go_wp2
    go_ret2
    exact ⟨rfl, 0, rfl⟩
  case pos =>
  obtain ⟨z1, z2, z3⟩ := whole_zero h0
  rw [h0] at HWH
  cases hi : inB a f
  case false =>
    have hE : betE t a b f = 2 := by simp [betE, h0, hi]
    rw [bet_code hE (by omega), hE]
    clear hE h0 z1
    go_enter Try.func21, Try.ntmps21
    go_wp2_with fail
    refine (HWH.out _).mono ?_
    rintro e w1 ⟨rfl, hw⟩
    rw [hw]
    clear hw
    go_wp2_with fail
    refine (within_any _ _ _).mono ?_
    rintro e w1 ⟨rfl, hw⟩
    rw [hw]
    clear hw
    go_wp2
    go_ret2
    exact ⟨rfl, 0, rfl⟩
  case true =>
  cases hj : inB b f
  case false =>
    have hE : betE t a b f = 2 := by simp [betE, h0, hj]
    rw [bet_code hE (by omega), hE]
    clear hE h0 z1
    go_enter Try.func21, Try.ntmps21
    go_wp2_with fail
    refine (HWH.out _).mono ?_
    rintro e w1 ⟨rfl, hw⟩
    rw [hw]
    clear hw
    go_wp2_with fail
    refine (within_any _ _ _).mono ?_
    rintro e w1 ⟨rfl, hw⟩
    rw [hw]
    clear hw
    go_wp2_with fail
    refine (within_any _ _ _).mono ?_
    rintro e w1 ⟨rfl, hw⟩
    rw [hw]
    clear hw
    go_wp2
    go_ret2
    exact ⟨rfl, 0, rfl⟩
  case true =>
  by_cases ho : b < a
  · have hE : betE t a b f = 8 := by simp [betE, h0, hi, hj, ho]
    rw [bet_code hE (by omega), hE]
    clear hE h0 z1
    go_enter Try.func21, Try.ntmps21
    go_wp2_with fail
    refine (HWH.out _).mono ?_
    rintro e w1 ⟨rfl, hw⟩
    rw [hw]
    clear hw
    go_wp2_with fail
    refine (within_any _ _ _).mono ?_
    rintro e w1 ⟨rfl, hw⟩
    rw [hw]
    clear hw
    go_wp2_with fail
    refine (within_any _ _ _).mono ?_
    rintro e w1 ⟨rfl, hw⟩
    rw [hw]
    clear hw
    go_wp2
    go_ret2
    exact ⟨rfl, 0, rfl⟩
  · have hE : betE t a b f = 0 := by simp [betE, h0, hi, hj, ho]
    rw [show betR t a b f = upV t b f - upV t a f by simp [betR, hE], hE]
    have hi2 : 0 ≤ a ∧ a ≤ f := by simpa [inB] using hi
    have hj2 : 0 ≤ b ∧ b ≤ f := by simpa [inB] using hj
    have HA := Lib.hid (upTo_any t a f z1 hi2.1 hi2.2 z2 z3)
    have HB := Lib.hid (upTo_any t b f z1 hj2.1 hj2.2 z2 z3)
    have sa := up_small t a f z1 hi2.1 hi2.2
    have sb := up_small t b f z1 hj2.1 hj2.2
    clear hE h0 z1
    generalize upV t a f = VA at HA sa ⊢
    generalize upV t b f = VB at HB sb ⊢
    have uw : IntKind.i64.wrap (VB - VA) = VB - VA := wrap_i _ (by omega) (by omega)
    clear sa sb hi2 hj2
    go_enter Try.func21, Try.ntmps21
    go_wp2_with fail
    refine (HWH.out _).mono ?_
    rintro e w1 ⟨rfl, hw⟩
    rw [hw]
    clear hw
    go_wp2_with fail
    refine (within_any _ _ _).mono ?_
    rintro e w1 ⟨rfl, hw⟩
    rw [hw]
    clear hw
    go_wp2_with fail
    refine (within_any _ _ _).mono ?_
    rintro e w1 ⟨rfl, hw⟩
    rw [hw]
    clear hw
    go_wp2_with fail
    refine (HB.out _).mono ?_
    rintro e w1 ⟨rfl, m, rfl⟩
    go_wp2_with fail
    refine (HA.out _).mono ?_
    rintro e w1 ⟨rfl, m', rfl⟩
    go_wp2
    go_ret2
    exact ⟨rfl, _, rfl⟩
theorem up_whole (t f : Int) : upE t 0 f = wholeE t f := by
  unfold upE
  by_cases h : wholeE t f = 0
  · rw [if_pos h, h, if_pos]
    exact in_of (by omega) (by have := (whole_zero h).2.1; omega)
  · rw [if_neg h]
set_option maxHeartbeats 2000000 in
theorem refBetween_any (t a b f : Int) (w : World) : Calls Try.prog 22 #[.int .i64 t, .int .i64 a, .int .i64 b, .int .i64 f] w fun e w' => e = .returned (.tuple #[.int .i64 (betR t a b f), .int .i64 (betE t a b f)]) ∧ w' = w := by
  have H0 := refUp_any t 0 f
  rw [up_whole] at H0
  generalize upR t 0 f = V0 at H0
  have H0 := Lib.hid H0
  by_cases h0 : wholeE t f = 0
  case neg =>
    have hE : betE t a b f = wholeE t f := by simp [betE, h0]
    rw [bet_code hE h0, hE]
    clear hE
    generalize wholeE t f = E at H0 h0 ⊢
    have dE : (E != 0) = true := by simp [h0]
    go_enter Try.func22, Try.ntmps22
    go_wp2_with fail
    refine (H0.out _).mono ?_
    rintro e w1 ⟨rfl, hw⟩
    rw [hw]
    clear hw
    go_wp2
    go_ret2
    exact ⟨rfl, rfl⟩
  case pos =>
  obtain ⟨z1, z2, z3⟩ := whole_zero h0
  rw [h0] at H0
  have HA := refUp_any t a f
  have HB := refUp_any t b f
  cases hi : inB a f
  case false =>
    have hE : betE t a b f = 2 := by simp [betE, h0, hi]
    rw [show upE t a f = 2 by simp [upE, h0, hi]] at HA
    generalize upR t a f = VA at HA
    rw [bet_code hE (by omega), hE]
    have HA := Lib.hid HA
    clear hE h0 z1 HB
    go_enter Try.func22, Try.ntmps22
    go_wp2_with fail
    refine (H0.out _).mono ?_
    rintro e w1 ⟨rfl, hw⟩
    rw [hw]
    clear hw
    go_wp2_with fail
    refine (HA.out _).mono ?_
    rintro e w1 ⟨rfl, hw⟩
    rw [hw]
    clear hw
    go_wp2
    go_ret2
    exact ⟨rfl, rfl⟩
  case true =>
  rw [show upE t a f = 0 by simp [upE, h0, hi]] at HA
  rw [show upR t a f = upV t a f by simp [upR, upE, h0, hi]] at HA
  have hi2 : 0 ≤ a ∧ a ≤ f := by simpa [inB] using hi
  have sa := up_small t a f z1 hi2.1 hi2.2
  cases hj : inB b f
  case false =>
    have hE : betE t a b f = 2 := by simp [betE, h0, hj]
    rw [show upE t b f = 2 by simp [upE, h0, hj]] at HB
    generalize upR t b f = VB at HB
    generalize upV t a f = VA at HA sa
    rw [bet_code hE (by omega), hE]
    have HA := Lib.hid HA
    have HB := Lib.hid HB
    clear hE h0 z1 sa hi2
    go_enter Try.func22, Try.ntmps22
    go_wp2_with fail
    refine (H0.out _).mono ?_
    rintro e w1 ⟨rfl, hw⟩
    rw [hw]
    clear hw
    go_wp2_with fail
    refine (HA.out _).mono ?_
    rintro e w1 ⟨rfl, hw⟩
    rw [hw]
    clear hw
    go_wp2_with fail
    refine (HB.out _).mono ?_
    rintro e w1 ⟨rfl, hw⟩
    rw [hw]
    clear hw
    go_wp2
    go_ret2
    exact ⟨rfl, rfl⟩
  case true =>
  rw [show upE t b f = 0 by simp [upE, h0, hj]] at HB
  rw [show upR t b f = upV t b f by simp [upR, upE, h0, hj]] at HB
  have hj2 : 0 ≤ b ∧ b ≤ f := by simpa [inB] using hj
  have sb := up_small t b f z1 hj2.1 hj2.2
  by_cases ho : b < a
  · have hE : betE t a b f = 8 := by simp [betE, h0, hi, hj, ho]
    rw [bet_code hE (by omega), hE]
    generalize upV t a f = VA at HA sa
    generalize upV t b f = VB at HB sb
    have HA := Lib.hid HA
    have HB := Lib.hid HB
    clear hE h0 z1 sa sb hi2 hj2
    go_enter Try.func22, Try.ntmps22
    go_wp2_with fail
    refine (H0.out _).mono ?_
    rintro e w1 ⟨rfl, hw⟩
    rw [hw]
    clear hw
    go_wp2_with fail
    refine (HA.out _).mono ?_
    rintro e w1 ⟨rfl, hw⟩
    rw [hw]
    clear hw
    go_wp2_with fail
    refine (HB.out _).mono ?_
    rintro e w1 ⟨rfl, hw⟩
    rw [hw]
    clear hw
    go_wp2
    go_ret2
    exact ⟨rfl, rfl⟩
  · have hE : betE t a b f = 0 := by simp [betE, h0, hi, hj, ho]
    rw [show betR t a b f = upV t b f - upV t a f by simp [betR, hE], hE]
    generalize upV t a f = VA at HA sa ⊢
    generalize upV t b f = VB at HB sb ⊢
    have uw : IntKind.i64.wrap (VB - VA) = VB - VA := wrap_i _ (by omega) (by omega)
    have HA := Lib.hid HA
    have HB := Lib.hid HB
    clear hE h0 z1 sa sb hi2 hj2
    go_enter Try.func22, Try.ntmps22
    go_wp2_with fail
    refine (H0.out _).mono ?_
    rintro e w1 ⟨rfl, hw⟩
    rw [hw]
    clear hw
    go_wp2_with fail
    refine (HA.out _).mono ?_
    rintro e w1 ⟨rfl, hw⟩
    rw [hw]
    clear hw
    go_wp2_with fail
    refine (HB.out _).mono ?_
    rintro e w1 ⟨rfl, hw⟩
    rw [hw]
    clear hw
    go_wp2
    go_ret2
    exact ⟨rfl, rfl⟩

end Go.Proofs.Ytamglmenljgbdaa.Sh
