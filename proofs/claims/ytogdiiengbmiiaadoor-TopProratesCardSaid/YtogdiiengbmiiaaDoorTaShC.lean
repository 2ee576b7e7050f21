/-
  What is proved: texts of other seats, joined for this one: what each theorem says. Conditions: as each says.
-/
import Derived.Test.YtogdiiengbmiiaaDoorTaShA
namespace Go.Proofs.YtogdiiengbmiiaaDoor.Sh
open Go Go.RowKit Go.Proofs

def fitB (t : Int) : Bool := decide (-1125899906842624 ≤ t) && decide (t ≤ 1125899906842624)
def inB (n m : Int) : Bool := decide (0 ≤ n) && decide (n ≤ m)
def wholeE (t f : Int) : Int := if fitB t = true then (if f = 0 then 22 else if inB f 1125899906842624 = true then 0 else 2) else 9
def sg (t : Int) : Int := if t < 0 then -1 else 1
/-- a * b / c, to the nearer whole. -/
def halfN (a b c : Nat) : Nat := if c ≤ 2 * (a * b % c) then a * b / c + 1 else a * b / c
def upV (t a f : Int) : Int := sg t * (halfN t.natAbs a.toNat f.toNat : Int)

theorem wrap_i (t : Int) (h1 : -9223372036854775808 ≤ t) (h2 : t < 9223372036854775808) : IntKind.i64.wrap t = t := by rw [IntKind.wrap_i64]; omega

theorem fits_any (t : Int) (w : World) : Calls Tryd.prog 50 #[.int .i64 t] w fun e w' => e = .returned (.bool (fitB t)) ∧ w' = w := by
  by_cases h1 : -1125899906842624 ≤ t
  · have d1 : decide (-1125899906842624 ≤ t) = true := decide_eq_true h1
    rw [show fitB t = decide (t ≤ 1125899906842624) by simp [fitB, h1]]
    go_enter Tryd.func50, Tryd.ntmps50
    go_wp2
    go_ret
    exact ⟨rfl, rfl⟩
  · have d1 : decide (-1125899906842624 ≤ t) = false := decide_eq_false h1
    rw [show fitB t = false by simp [fitB, h1]]
    go_enter Tryd.func50, Tryd.ntmps50
    go_wp2
    go_ret
    exact ⟨rfl, rfl⟩
theorem within_any (n m : Int) (w : World) : Calls Tryd.prog 34 #[.int .i64 n, .int .i64 m] w fun e w' => e = .returned (.bool (inB n m)) ∧ w' = w := by
  by_cases h1 : 0 ≤ n
  · have d1 : decide (0 ≤ n) = true := decide_eq_true h1
    rw [show inB n m = decide (n ≤ m) by simp [inB, h1]]
    go_enter Tryd.func34, Tryd.ntmps34
    go_wp2
    go_ret
    exact ⟨rfl, rfl⟩
  · have d1 : decide (0 ≤ n) = false := decide_eq_false h1
    rw [show inB n m = false by simp [inB, h1]]
    go_enter Tryd.func34, Tryd.ntmps34
    go_wp2
    go_ret
    exact ⟨rfl, rfl⟩
theorem whole_any (t f : Int) (w : World) : Calls Tryd.prog 33 #[.int .i64 t, .int .i64 f] w fun e w' => e = .returned (.int .i64 (wholeE t f)) ∧ w' = w := by
  cases hf : fitB t
  case false =>
    rw [show wholeE t f = 9 by simp [wholeE, hf]]
    go_enter Tryd.func33, Tryd.ntmps33
    go_wp2_with fail
    refine (fits_any _ _).mono ?_
    rintro e w' ⟨rfl, rfl⟩
    go_wp2
    go_ret
    exact ⟨rfl, rfl⟩
  case true =>
    by_cases h0 : f = 0
    · subst h0
      rw [show wholeE t 0 = 22 by simp [wholeE, hf]]
      go_enter Tryd.func33, Tryd.ntmps33
      go_wp2_with fail
      refine (fits_any _ _).mono ?_
      rintro e w' ⟨rfl, rfl⟩
      go_wp2
      go_ret
      exact ⟨rfl, rfl⟩
    · have d0 : (f == 0) = false := by simp [h0]
      cases hi : inB f 1125899906842624
      case false =>
        rw [show wholeE t f = 2 by simp [wholeE, hf, h0, hi]]
        go_enter Tryd.func33, Tryd.ntmps33
        go_wp2_with fail
        refine (fits_any _ _).mono ?_
        rintro e w' ⟨rfl, rfl⟩
        go_wp2_with fail
        refine (within_any _ _ _).mono ?_
        rintro e w' ⟨rfl, rfl⟩
        go_wp2
        go_ret
        exact ⟨rfl, rfl⟩
      case true =>
        rw [show wholeE t f = 0 by simp [wholeE, hf, h0, hi]]
        go_enter Tryd.func33, Tryd.ntmps33
        go_wp2_with fail
        refine (fits_any _ _).mono ?_
        rintro e w' ⟨rfl, rfl⟩
        go_wp2_with fail
        refine (within_any _ _ _).mono ?_
        rintro e w' ⟨rfl, rfl⟩
        go_wp2
        go_ret
        exact ⟨rfl, rfl⟩
theorem apart_any (t : Int) (h : fitB t = true) (w : World) : Calls Tryd.prog 51 #[.int .i64 t] w fun e w' => e = .returned (.tuple #[.int .u64 (t.natAbs : Int), .int .i64 (sg t)]) ∧ w' = w := by
  have h' : -1125899906842624 ≤ t ∧ t ≤ 1125899906842624 := by simpa [fitB] using h
  obtain ⟨h1, h2⟩ := h'
  clear h
  by_cases h0 : t < 0
  · obtain ⟨n, hn⟩ : ∃ n : Nat, t.natAbs = n := ⟨_, rfl⟩
    rw [show sg t = -1 by simp [sg, h0], hn]
    have e1 : IntKind.i64.wrap (-t) = (n : Int) := by rw [show -t = (n : Int) by omega]; exact wrap_i _ (by omega) (by omega)
    have e2 : IntKind.u64.wrap (n : Int) = (n : Int) := wrap_in _ (by omega)
    have e3 : -t = (n : Int) := by omega
    have e4 : IntKind.i64.wrap (n : Int) = (n : Int) := wrap_i _ (by omega) (by omega)
    go_enter Tryd.func51, Tryd.ntmps51
    go_wp2
    go_ret2
    exact ⟨rfl, rfl⟩
  · obtain ⟨n, hn⟩ : ∃ n : Nat, t.natAbs = n := ⟨_, rfl⟩
    rw [show sg t = 1 by simp [sg, h0], hn]
    obtain rfl : t = (n : Int) := by omega
    have e2 : IntKind.u64.wrap (n : Int) = (n : Int) := wrap_in _ (by omega)
    go_enter Tryd.func51, Tryd.ntmps51
    go_wp2
    go_ret2
    exact ⟨rfl, rfl⟩
theorem portion_any (a b c : Nat) (ha : a ≤ 1125899906842624) (hb : b ≤ c) (hc : 0 < c) (hc2 : c < 18446744073709551616) (w : World) : Calls Tryd.prog 52 #[.int .u64 a, .int .u64 b, .int .u64 c] w fun e w' => e = .returned (.tuple #[.int .u64 ((a * b / c : Nat) : Int), .int .u64 ((a * b % c : Nat) : Int)]) ∧ ∃ n, w' = w.drewN n := by
  have hm : a * b ≤ 1125899906842624 * c := Nat.mul_le_mul ha hb
  obtain ⟨N, hN⟩ : ∃ N, N = a * b := ⟨_, rfl⟩
  have hM := Lib.hid (Tryd.bits_Mul64 a b (by omega) (by omega))
  rw [← hN] at hm hM ⊢
  obtain ⟨hi, hhi⟩ : ∃ hi, hi = N / 18446744073709551616 := ⟨_, rfl⟩
  obtain ⟨lo, hlo⟩ : ∃ lo, lo = N % 18446744073709551616 := ⟨_, rfl⟩
  have hD := Lib.hid (div_any hi lo c (by omega) (by omega) hc2)
  rw [show hi * 18446744073709551616 + lo = N by omega] at hD
  rw [← hhi, ← hlo] at hM
  obtain ⟨G, hG⟩ : ∃ G, G = N / c := ⟨_, rfl⟩
  obtain ⟨H, hH⟩ : ∃ H, H = N % c := ⟨_, rfl⟩
  rw [← hG, ← hH] at hD ⊢
  clear hhi hlo hN hm hG hH
  go_enter Tryd.func52, Tryd.ntmps52
  go_wp2_with fail
  refine (hM.out _).mono ?_
  rintro e w' ⟨rfl, rfl⟩
  go_wp2_with fail
  refine (hD.out _).mono ?_
  rintro e w' ⟨rfl, n, rfl⟩
  go_wp2
  go_ret2
  exact ⟨rfl, n, rfl⟩

/-- A part of an amount is at most the amount. -/
theorem part_le (a b c : Nat) (hb : b ≤ c) : a * b / c ≤ a := by
  rcases Nat.eq_zero_or_pos c with rfl | hc
  · simp
  · apply Nat.div_le_of_le_mul
    rw [Nat.mul_comm c]
    exact Nat.mul_le_mul_left _ hb
theorem sg_mul (t : Int) (n : Nat) (h : n ≤ 9223372036854775807) : IntKind.i64.wrap (sg t * (n : Int)) = sg t * (n : Int) := by
  apply wrap_i <;> unfold sg <;> split <;> omega
set_option maxHeartbeats 1000000 in
theorem upTo_any (t a f : Int) (h : fitB t = true) (ha0 : 0 ≤ a) (ha : a ≤ f) (hf : 0 < f) (hf2 : f ≤ 1125899906842624) (w : World) : Calls Tryd.prog 35 #[.int .i64 t, .int .i64 a, .int .i64 f] w fun e w' => e = .returned (.int .i64 (upV t a f)) ∧ ∃ n, w' = w.drewN n := by
  obtain ⟨A, hA⟩ : ∃ A : Nat, a = A := ⟨a.toNat, by omega⟩
  obtain ⟨F, hF⟩ : ∃ F : Nat, f = F := ⟨f.toNat, by omega⟩
  subst hA hF
  have h' : -1125899906842624 ≤ t ∧ t ≤ 1125899906842624 := by simpa [fitB] using h
  have hP := Lib.hid (portion_any t.natAbs A F (by omega) (by omega) (by omega) (by omega))
  have hAP := Lib.hid (apart_any t h)
  have hV : upV t (A : Int) (F : Int) = sg t * ((if F ≤ 2 * (t.natAbs * A % F) then t.natAbs * A / F + 1 else t.natAbs * A / F : Nat) : Int) := by
    unfold upV halfN
    rw [Int.toNat_natCast, Int.toNat_natCast]
  have hle := part_le t.natAbs A F (by omega)
  have hlt : t.natAbs * A % F < F := Nat.mod_lt _ (by omega)
  obtain ⟨Q, hQ⟩ : ∃ Q, Q = t.natAbs * A / F := ⟨_, rfl⟩
  obtain ⟨R, hR⟩ : ∃ R, R = t.natAbs * A % F := ⟨_, rfl⟩
  rw [← hQ, ← hR] at hP hV
  rw [← hQ] at hle
  rw [← hR] at hlt
  have hS := Lib.hid (sg_mul t)
  rw [hV]
  clear hV h hQ hR
  obtain ⟨T, hT⟩ : ∃ T, T = t.natAbs := ⟨_, rfl⟩
  rw [← hT] at hP hAP hle
  obtain ⟨s, hs⟩ : ∃ s, s = sg t := ⟨_, rfl⟩
  rw [← hs] at hAP hS ⊢
  have hQb : Q ≤ 1125899906842624 := by omega
  clear hT hs hle h'
  have u1 : IntKind.u64.wrap (A : Int) = (A : Int) := wrap_in _ (by omega)
  have u2 : IntKind.u64.wrap (F : Int) = (F : Int) := wrap_in _ (by omega)
  have u3 : IntKind.u64.wrap ((F : Int) - (R : Int)) = (F : Int) - (R : Int) := by rw [IntKind.wrap_u64]; omega
  by_cases hh : F ≤ 2 * R
  · rw [if_pos hh]
    have d1 : (F : Int) - (R : Int) ≤ (R : Int) := by omega
    obtain ⟨Q', hQ'⟩ : ∃ Q', Q' = Q + 1 := ⟨_, rfl⟩
    rw [← hQ']
    have u4 : (Q : Int) + 1 = (Q' : Int) := by omega
    have u5 : IntKind.u64.wrap (Q' : Int) = (Q' : Int) := wrap_in _ (by omega)
    have u6 : IntKind.i64.wrap (Q' : Int) = (Q' : Int) := wrap_i _ (by omega) (by omega)
    have u7 := hS.out Q' (by omega)
    clear hQ' hh
    go_enter Tryd.func35, Tryd.ntmps35
    go_wp2_with fail
    refine (hAP.out _).mono ?_
    rintro e w' ⟨rfl, rfl⟩
    go_wp2_with fail
    refine (hP.out _).mono ?_
    rintro e w' ⟨rfl, n, rfl⟩
    go_wp2
    go_ret
    exact ⟨rfl, n, rfl⟩
  · rw [if_neg hh]
    have d1 : ¬ (F : Int) - (R : Int) ≤ (R : Int) := by omega
    have u6 : IntKind.i64.wrap (Q : Int) = (Q : Int) := wrap_i _ (by omega) (by omega)
    have u7 := hS.out Q (by omega)
    clear hh
    go_enter Tryd.func35, Tryd.ntmps35
    go_wp2_with fail
    refine (hAP.out _).mono ?_
    rintro e w' ⟨rfl, rfl⟩
    go_wp2_with fail
    refine (hP.out _).mono ?_
    rintro e w' ⟨rfl, n, rfl⟩
    go_wp2
    go_ret
    exact ⟨rfl, n, rfl⟩


open Go Go.RowKit Go.Proofs

def upE (t a f : Int) : Int := if wholeE t f = 0 then (if inB a f = true then 0 else 2) else wholeE t f
def upR (t a f : Int) : Int := if upE t a f = 0 then upV t a f else 0
theorem whole_zero {t f : Int} (h : wholeE t f = 0) : fitB t = true ∧ 0 < f ∧ f ≤ 1125899906842624 := by
  unfold wholeE at h
  split at h
  · rename_i h1
    split at h
    · omega
    · rename_i h2
      split at h
      · rename_i h3
        simp [inB] at h3
        exact ⟨h1, by omega, h3.2⟩
      · omega
  · omega
def betE (t a b f : Int) : Int := if wholeE t f = 0 then (if inB a f = true ∧ inB b f = true then (if b < a then 8 else 0) else 2) else wholeE t f
def betR (t a b f : Int) : Int := if betE t a b f = 0 then upV t b f - upV t a f else 0


open Go Go.RowKit Go.Proofs

theorem over_q {q r a b c : Nat} (h : q * c + r = a * b) (hb : b ≤ c) (hc : 0 < c) : q ≤ a := by
  apply Nat.le_of_mul_le_mul_right _ hc
  have := Nat.mul_le_mul_left a hb
  omega
theorem half_pow (a e : Nat) : a / 2 ^ e = 2 * (a / 2 ^ (e + 1)) + a / 2 ^ e % 2 := by
  rw [Nat.pow_succ, ← Nat.div_div_eq_div_mul]; omega
theorem div_of {q r c N : Nat} (h : q * c + r = N) (hr : r < c) : q = N / c ∧ r = N % c := by
  have h1 : N = r + c * q := by rw [← h, Nat.mul_comm]; omega
  refine ⟨?_, ?_⟩
  · rw [h1, Nat.add_mul_div_left _ _ (by omega), Nat.div_eq_of_lt hr]; omega
  · rw [h1, Nat.add_mul_mod_self_left, Nat.mod_eq_of_lt hr]
theorem i64_and1 (n : Int) : bits .and .i64 n 1 = n % 2 := by
  have h1 : (BitVec.ofInt 64 1).toNat = 2 ^ 1 - 1 := by decide
  have key : (BitVec.ofInt 64 n &&& BitVec.ofInt 64 1).toNat = (n % ((2 ^ 64 : Nat) : Int)).toNat % 2 ^ 1 := by
    rw [BitVec.toNat_and, BitVec.toNat_ofInt, h1, Nat.and_two_pow_sub_one_eq_mod]
  show IntKind.i64.wrap ((BitVec.ofInt 64 n &&& BitVec.ofInt 64 1).toNat : Nat) = n % 2
  rw [key, IntKind.wrap_i64]
  omega
theorem two_mul_add (q c r A b : Nat) (h : q * c + r = A * b) : 2 * q * c + 2 * r = 2 * A * b := by
  rw [Nat.mul_assoc, Nat.mul_assoc, ← h]; omega
open Go Go.RowKit Go.Proofs

theorem up_code {t a f : Int} {E : Int} (h : upE t a f = E) (hE : E ≠ 0) : upR t a f = 0 := by unfold upR; rw [if_neg (by rw [h]; exact hE)]
theorem fit_of {t : Int} (h1 : -1125899906842624 ≤ t) (h2 : t ≤ 1125899906842624) : fitB t = true := by simp [fitB, h1, h2]
theorem fit_not {t : Int} (h : t < -1125899906842624 ∨ 1125899906842624 < t) : fitB t = false := by simp [fitB]; omega
theorem in_of {n m : Int} (h1 : 0 ≤ n) (h2 : n ≤ m) : inB n m = true := by simp [inB, h1, h2]
theorem in_not {n m : Int} (h : n < 0 ∨ m < n) : inB n m = false := by simp [inB]; omega
theorem half_le (a b c : Nat) (hb : b ≤ c) : halfN a b c ≤ a + 1 := by
  have := part_le a b c hb
  unfold halfN
  split <;> omega
open Go Go.RowKit Go.Proofs

theorem bet_code {t a b f : Int} {E : Int} (h : betE t a b f = E) (hE : E ≠ 0) : betR t a b f = 0 := by unfold betR; rw [if_neg (by rw [h]; exact hE)]
theorem up_small (t a f : Int) (h : fitB t = true) (_ : 0 ≤ a) (h1 : a ≤ f) : -1125899906842625 ≤ upV t a f ∧ upV t a f ≤ 1125899906842625 := by
  have ht : -1125899906842624 ≤ t ∧ t ≤ 1125899906842624 := by simpa [fitB] using h
  have hb := half_le t.natAbs a.toNat f.toNat (by omega)
  unfold upV sg
  split <;> omega
set_option maxHeartbeats 2000000 in
theorem Between_any (t a b f : Int) (w : World) : Calls Tryd.prog 14 #[.int .i64 t, .int .i64 a, .int .i64 b, .int .i64 f] w fun e w' => e = .returned (.tuple #[.int .i64 (betR t a b f), .int .i64 (betE t a b f)]) ∧ ∃ n, w' = w.drewN n := by
  have HWH := Lib.hid (whole_any t f)
  by_cases h0 : wholeE t f = 0
  case neg =>
    have hE : betE t a b f = wholeE t f := by simp [betE, h0]
    rw [bet_code hE h0, hE]
    clear hE
    generalize wholeE t f = E at HWH h0 ⊢
    have dE : (E != 0) = true := by simp [h0]
    go_enter Tryd.func14, Tryd.ntmps14
    go_wp2_with fail
    refine (HWH.out _).mono ?_
    rintro e w1 ⟨rfl, hw⟩
    rw [hw]
    clear hw
    go_wp2
    go_ret2
    exact ⟨rfl, 0, rfl⟩
  case pos =>
  obtain ⟨z1, z2, z3⟩ := whole_zero h0
  rw [h0] at HWH
  cases hi : inB a f
  case false =>
    have hE : betE t a b f = 2 := by simp [betE, h0, hi]
    rw [bet_code hE (by omega), hE]
    clear hE h0 z1
    go_enter Tryd.func14, Tryd.ntmps14
    go_wp2_with fail
    refine (HWH.out _).mono ?_
    rintro e w1 ⟨rfl, hw⟩
    rw [hw]
    clear hw
    go_wp2_with fail
    refine (within_any _ _ _).mono ?_
    rintro e w1 ⟨rfl, hw⟩
    rw [hw]
    clear hw
    go_wp2
    go_ret2
    exact ⟨rfl, 0, rfl⟩
  case true =>
  cases hj : inB b f
  case false =>
    have hE : betE t a b f = 2 := by simp [betE, h0, hj]
    rw [bet_code hE (by omega), hE]
    clear hE h0 z1
    go_enter Tryd.func14, Tryd.ntmps14
    go_wp2_with fail
    refine (HWH.out _).mono ?_
    rintro e w1 ⟨rfl, hw⟩
    rw [hw]
    clear hw
    go_wp2_with fail
    refine (within_any _ _ _).mono ?_
    rintro e w1 ⟨rfl, hw⟩
    rw [hw]
    clear hw
    go_wp2_with fail
    refine (within_any _ _ _).mono ?_
    rintro e w1 ⟨rfl, hw⟩
    rw [hw]
    clear hw
    go_wp2
    go_ret2
    exact ⟨rfl, 0, rfl⟩
  case true =>
  by_cases ho : b < a
  · have hE : betE t a b f = 8 := by simp [betE, h0, hi, hj, ho]
    rw [bet_code hE (by omega), hE]
    clear hE h0 z1
    go_enter Tryd.func14, Tryd.ntmps14
    go_wp2_with fail
    refine (HWH.out _).mono ?_
    rintro e w1 ⟨rfl, hw⟩
    rw [hw]
    clear hw
    go_wp2_with fail
    refine (within_any _ _ _).mono ?_
    rintro e w1 ⟨rfl, hw⟩
    rw [hw]
    clear hw
    go_wp2_with fail
    refine (within_any _ _ _).mono ?_
    rintro e w1 ⟨rfl, hw⟩
    rw [hw]
    clear hw
    go_wp2
    go_ret2
    exact ⟨rfl, 0, rfl⟩
  · have hE : betE t a b f = 0 := by simp [betE, h0, hi, hj, ho]
    rw [show betR t a b f = upV t b f - upV t a f by simp [betR, hE], hE]
    have hi2 : 0 ≤ a ∧ a ≤ f := by simpa [inB] using hi
    have hj2 : 0 ≤ b ∧ b ≤ f := by simpa [inB] using hj
    have HA := Lib.hid (upTo_any t a f z1 hi2.1 hi2.2 z2 z3)
    have HB := Lib.hid (upTo_any t b f z1 hj2.1 hj2.2 z2 z3)
    have sa := up_small t a f z1 hi2.1 hi2.2
    have sb := up_small t b f z1 hj2.1 hj2.2
    clear hE h0 z1
    generalize upV t a f = VA at HA sa ⊢
    generalize upV t b f = VB at HB sb ⊢
    have uw : IntKind.i64.wrap (VB - VA) = VB - VA := wrap_i _ (by omega) (by omega)
    clear sa sb hi2 hj2
    go_enter Tryd.func14, Tryd.ntmps14
    go_wp2_with fail
    refine (HWH.out _).mono ?_
    rintro e w1 ⟨rfl, hw⟩
    rw [hw]
    clear hw
    go_wp2_with fail
    refine (within_any _ _ _).mono ?_
    rintro e w1 ⟨rfl, hw⟩
    rw [hw]
    clear hw
    go_wp2_with fail
    refine (within_any _ _ _).mono ?_
    rintro e w1 ⟨rfl, hw⟩
    rw [hw]
    clear hw
    go_wp2_with fail
    refine (HB.out _).mono ?_
    rintro e w1 ⟨rfl, m, rfl⟩
    go_wp2_with fail
    refine (HA.out _).mono ?_
    rintro e w1 ⟨rfl, m', rfl⟩
    go_wp2
    go_ret2
    exact ⟨rfl, _, rfl⟩
theorem up_whole (t f : Int) : upE t 0 f = wholeE t f := by
  unfold upE
  by_cases h : wholeE t f = 0
  · rw [if_pos h, h, if_pos]
    exact in_of (by omega) (by have := (whole_zero h).2.1; omega)
  · rw [if_neg h]

end Go.Proofs.YtogdiiengbmiiaaDoor.Sh
