/-
  What is proved: the contracts of the document's own UpTo and Between, and of share.Between. Conditions: none.
-/
import Derived.Test.YtamglmenljgbdaaShE
namespace Go.Proofs.Ytamglmenljgbdaa.Sh
open Go Go.RowKit Go.Proofs

theorem up_code {t a f : Int} {E : Int} (h : upE t a f = E) (hE : E ≠ 0) : upR t a f = 0 := by unfold upR; rw [if_neg (by rw [h]; exact hE)]
theorem fit_of {t : Int} (h1 : -1125899906842624 ≤ t) (h2 : t ≤ 1125899906842624) : fitB t = true := by simp [fitB, h1, h2]
theorem fit_not {t : Int} (h : t < -1125899906842624 ∨ 1125899906842624 < t) : fitB t = false := by simp [fitB]; omega
theorem in_of {n m : Int} (h1 : 0 ≤ n) (h2 : n ≤ m) : inB n m = true := by simp [inB, h1, h2]
theorem in_not {n m : Int} (h : n < 0 ∨ m < n) : inB n m = false := by simp [inB]; omega
theorem half_le (a b c : Nat) (hb : b ≤ c) : halfN a b c ≤ a + 1 := by
  have := part_le a b c hb
  unfold halfN
  split <;> omega
/-- Where all is right, and the amount isn't below 0. -/
theorem refUp_pos (t a f : Int) (h0 : 0 ≤ t) (h1 : t ≤ 1125899906842624) (f0 : 0 < f) (f1 : f ≤ 1125899906842624) (a0 : 0 ≤ a) (a1 : a ≤ f) (w : World) : Calls Try.prog 39 #[.int .i64 t, .int .i64 a, .int .i64 f] w fun e w' => e = .returned (.tuple #[.int .i64 (upV t a f), .int .i64 0]) ∧ w' = w := by
  obtain ⟨T, rfl⟩ : ∃ T : Nat, t = T := ⟨t.toNat, by omega⟩
  obtain ⟨A, rfl⟩ : ∃ A : Nat, a = A := ⟨a.toNat, by omega⟩
  obtain ⟨F, rfl⟩ : ∃ F : Nat, f = F := ⟨f.toNat, by omega⟩
  have hV : upV (T : Int) (A : Int) (F : Int) = ((if F ≤ 2 * (T * A % F) then T * A / F + 1 else T * A / F : Nat) : Int) := by
    unfold upV sg halfN
    rw [if_neg (by omega), Int.toNat_natCast, Int.toNat_natCast, Int.natAbs_natCast, Int.one_mul]
  rw [hV]
  clear hV
  have HO := Lib.hid (over_any T A F (by omega) (by omega) (by omega) (by omega))
  have hle := part_le T A F (by omega)
  have hlt : T * A % F < F := Nat.mod_lt _ (by omega)
  generalize T * A / F = Q at HO hle ⊢
  generalize T * A % F = R at HO hlt ⊢
  have d1 : decide ((1125899906842624 : Int) < (T : Int)) = false := decide_eq_false (by omega)
  have d2 : decide ((T : Int) < -1125899906842624) = false := decide_eq_false (by omega)
  have d3 : decide ((F : Int) < 0) = false := decide_eq_false (by omega)
  have d4 : decide ((1125899906842624 : Int) < (F : Int)) = false := decide_eq_false (by omega)
  have d5 : decide ((A : Int) < 0) = false := decide_eq_false (by omega)
  have d6 : decide ((F : Int) < (A : Int)) = false := decide_eq_false (by omega)
  have d7 : ((F : Int) == 0) = false := by simp; omega
  have d8 : ¬ (T : Int) < 0 := by omega
  have u1 : IntKind.i64.wrap (2 * (R : Int)) = 2 * (R : Int) := wrap_i _ (by omega) (by omega)
  by_cases hh : F ≤ 2 * R
  · rw [if_pos hh]
    have d9 : (F : Int) ≤ 2 * (R : Int) := by omega
    obtain ⟨Q', hQ'⟩ : ∃ Q', Q' = Q + 1 := ⟨_, rfl⟩
    rw [← hQ']
    have u4 : (Q : Int) + 1 = (Q' : Int) := by omega
    have u5 : IntKind.i64.wrap (Q' : Int) = (Q' : Int) := wrap_i _ (by omega) (by omega)
    clear hQ' hh
    go_enter Try.func39, Try.ntmps39
    go_wp2_with fail
    refine (HO.out _).mono ?_
    rintro e w1 ⟨rfl, rfl⟩
    go_wp2
    go_ret2
    exact ⟨rfl, rfl⟩
  · rw [if_neg hh]
    have d9 : ¬ (F : Int) ≤ 2 * (R : Int) := by omega
    clear hh
    go_enter Try.func39, Try.ntmps39
    go_wp2_with fail
    refine (HO.out _).mono ?_
    rintro e w1 ⟨rfl, rfl⟩
    go_wp2
    go_ret2
    exact ⟨rfl, rfl⟩
set_option maxHeartbeats 1000000 in
theorem refUp_any (t a f : Int) (w : World) : Calls Try.prog 39 #[.int .i64 t, .int .i64 a, .int .i64 f] w fun e w' => e = .returned (.tuple #[.int .i64 (upR t a f), .int .i64 (upE t a f)]) ∧ w' = w := by
  by_cases h1 : 1125899906842624 < t
  · have d1 : decide ((1125899906842624 : Int) < t) = true := decide_eq_true (by omega)
    have hf := fit_not (t := t) (by omega)
    have hE : upE t a f = 9 := by simp [upE, wholeE, hf]
    rw [up_code hE (by omega), hE]
    clear hE
    go_enter Try.func39, Try.ntmps39
    go_wp2
    go_ret2
    exact ⟨rfl, rfl⟩
  have d1 : decide ((1125899906842624 : Int) < t) = false := decide_eq_false (by omega)
  by_cases h2 : t < -1125899906842624
  · have d2 : decide (t < -1125899906842624) = true := decide_eq_true (by omega)
    have hf := fit_not (t := t) (by omega)
    have hE : upE t a f = 9 := by simp [upE, wholeE, hf]
    rw [up_code hE (by omega), hE]
    clear hE
    go_enter Try.func39, Try.ntmps39
    go_wp2
    go_ret2
    exact ⟨rfl, rfl⟩
  have d2 : decide (t < -1125899906842624) = false := decide_eq_false (by omega)
  have hf := fit_of (t := t) (by omega) (by omega)
  by_cases h3 : f = 0
  · subst h3
    have hE : upE t a 0 = 22 := by simp [upE, wholeE, hf]
    rw [up_code hE (by omega), hE]
    clear hE
    go_enter Try.func39, Try.ntmps39
    go_wp2
    go_ret2
    exact ⟨rfl, rfl⟩
  have d7 : (f == 0) = false := by simp [h3]
  by_cases h4 : f < 0
  · have d3 : decide (f < 0) = true := decide_eq_true (by omega)
    have hi := in_not (n := f) (m := 1125899906842624) (by omega)
    have hE : upE t a f = 2 := by simp [upE, wholeE, hf, h3, hi]
    rw [up_code hE (by omega), hE]
    clear hE
    go_enter Try.func39, Try.ntmps39
    go_wp2
    go_ret2
    exact ⟨rfl, rfl⟩
  have d3 : decide (f < 0) = false := decide_eq_false (by omega)
  by_cases h5 : 1125899906842624 < f
  · have d4 : decide ((1125899906842624 : Int) < f) = true := decide_eq_true (by omega)
    have hi := in_not (n := f) (m := 1125899906842624) (by omega)
    have hE : upE t a f = 2 := by simp [upE, wholeE, hf, h3, hi]
    rw [up_code hE (by omega), hE]
    clear hE
    go_enter Try.func39, Try.ntmps39
    go_wp2
    go_ret2
    exact ⟨rfl, rfl⟩
  have d4 : decide ((1125899906842624 : Int) < f) = false := decide_eq_false (by omega)
  have hi := in_of (n := f) (m := 1125899906842624) (by omega) (by omega)
  by_cases h6 : a < 0
  · have d5 : decide (a < 0) = true := decide_eq_true (by omega)
    have hj := in_not (n := a) (m := f) (by omega)
    have hE : upE t a f = 2 := by simp [upE, wholeE, hf, h3, hi, hj]
    rw [up_code hE (by omega), hE]
    clear hE
    go_enter Try.func39, Try.ntmps39
    go_wp2
    go_ret2
    exact ⟨rfl, rfl⟩
  have d5 : decide (a < 0) = false := decide_eq_false (by omega)
  by_cases h7 : f < a
  · have d6 : decide (f < a) = true := decide_eq_true (by omega)
    have hj := in_not (n := a) (m := f) (by omega)
    have hE : upE t a f = 2 := by simp [upE, wholeE, hf, h3, hi, hj]
    rw [up_code hE (by omega), hE]
    clear hE
    go_enter Try.func39, Try.ntmps39
    go_wp2
    go_ret2
    exact ⟨rfl, rfl⟩
  have d6 : decide (f < a) = false := decide_eq_false (by omega)
  have hj := in_of (n := a) (m := f) (by omega) (by omega)
  have hE : upE t a f = 0 := by simp [upE, wholeE, hf, h3, hi, hj]
  rw [show upR t a f = upV t a f by simp [upR, hE], hE]
  by_cases h8 : t < 0
  · have HP := Lib.hid (refUp_pos (-t) a f (by omega) (by omega) (by omega) (by omega) (by omega) (by omega))
    have hV : upV t a f = -upV (-t) a f := by
      unfold upV sg
      rw [if_pos h8, if_neg (by omega), Int.natAbs_neg]
      omega
    have hb := half_le (-t).natAbs a.toNat f.toNat (by omega)
    have hV2 : upV (-t) a f = (halfN (-t).natAbs a.toNat f.toNat : Int) := by
      unfold upV sg
      rw [if_neg (by omega), Int.one_mul]
    rw [hV]
    have hvb : 0 ≤ upV (-t) a f ∧ upV (-t) a f ≤ 1125899906842625 := by rw [hV2]; omega
    generalize upV (-t) a f = V at HP hvb ⊢
    have u1 : IntKind.i64.wrap (-t) = -t := wrap_i _ (by omega) (by omega)
    have u2 : IntKind.i64.wrap (-V) = -V := wrap_i _ (by omega) (by omega)
    clear hV hV2 hb hE
    go_enter Try.func39, Try.ntmps39
    go_wp2_with fail
    refine (HP.out _).mono ?_
    rintro e w1 ⟨rfl, rfl⟩
    go_wp2
    go_ret2
    exact ⟨rfl, rfl⟩
  · exact refUp_pos t a f (by omega) (by omega) (by omega) (by omega) (by omega) (by omega) w

end Go.Proofs.Ytamglmenljgbdaa.Sh
