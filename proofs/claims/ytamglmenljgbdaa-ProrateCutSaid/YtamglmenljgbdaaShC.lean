/-
  What is proved: the contracts of share.fits, within, checkWhole, apart, portion, upTo, UpTo and Between. Conditions: as each says.
-/
import Derived.Test.YtamglmenljgbdaaShB
namespace Go.Proofs.Ytamglmenljgbdaa.Sh
open Go Go.RowKit Go.Proofs

def fitB (t : Int) : Bool := decide (-1125899906842624 ≤ t) && decide (t ≤ 1125899906842624)
def inB (n m : Int) : Bool := decide (0 ≤ n) && decide (n ≤ m)
def wholeE (t f : Int) : Int := if fitB t = true then (if f = 0 then 22 else if inB f 1125899906842624 = true then 0 else 2) else 9
def sg (t : Int) : Int := if t < 0 then -1 else 1
/-- a * b / c, to the nearer whole. -/
def halfN (a b c : Nat) : Nat := if c ≤ 2 * (a * b % c) then a * b / c + 1 else a * b / c
def upV (t a f : Int) : Int := sg t * (halfN t.natAbs a.toNat f.toNat : Int)

theorem wrap_i (t : Int) (h1 : -9223372036854775808 ≤ t) (h2 : t < 9223372036854775808) : IntKind.i64.wrap t = t := by rw [IntKind.wrap_i64]; omega

theorem fits_any (t : Int) (w : World) : Calls Try.prog 58 #[.int .i64 t] w fun e w' => e = .returned (.bool (fitB t)) ∧ w' = w := by
  by_cases h1 : -1125899906842624 ≤ t
  · have d1 : decide (-1125899906842624 ≤ t) = true := decide_eq_true h1
    rw [show fitB t = decide (t ≤ 1125899906842624) by simp [fitB, h1]]
    go_enter Try.func58, Try.ntmps58
    go_wp2
    go_ret
    exact ⟨rfl, rfl⟩
  · have d1 : decide (-1125899906842624 ≤ t) = false := decide_eq_false h1
    rw [show fitB t = false by simp [fitB, h1]]
    go_enter Try.func58, Try.ntmps58
    go_wp2
    go_ret
    exact ⟨rfl, rfl⟩
theorem within_any (n m : Int) (w : World) : Calls Try.prog 37 #[.int .i64 n, .int .i64 m] w fun e w' => e = .returned (.bool (inB n m)) ∧ w' = w := by
  by_cases h1 : 0 ≤ n
  · have d1 : decide (0 ≤ n) = true := decide_eq_true h1
    rw [show inB n m = decide (n ≤ m) by simp [inB, h1]]
    go_enter Try.func37, Try.ntmps37
    go_wp2
    go_ret
    exact ⟨rfl, rfl⟩
  · have d1 : decide (0 ≤ n) = false := decide_eq_false h1
    rw [show inB n m = false by simp [inB, h1]]
    go_enter Try.func37, Try.ntmps37
    go_wp2
    go_ret
    exact ⟨rfl, rfl⟩
theorem whole_any (t f : Int) (w : World) : Calls Try.prog 36 #[.int .i64 t, .int .i64 f] w fun e w' => e = .returned (.int .i64 (wholeE t f)) ∧ w' = w := by
  cases hf : fitB t
  case false =>
    rw [show wholeE t f = 9 by simp [wholeE, hf]]
    go_enter Try.func36, Try.ntmps36
    go_wp2_with fail
    refine (fits_any _ _).mono ?_
    rintro e w' ⟨rfl, rfl⟩
    go_wp2
    go_ret
    exact ⟨rfl, rfl⟩
  case true =>
    by_cases h0 : f = 0
    · subst h0
      rw [show wholeE t 0 = 22 by simp [wholeE, hf]]
      go_enter Try.func36, Try.ntmps36
      go_wp2_with fail
      refine (fits_any _ _).mono ?_
      rintro e w' ⟨rfl, rfl⟩
      go_wp2
      go_ret
      exact ⟨rfl, rfl⟩
    · have d0 : (f == 0) = false := by simp [h0]
      cases hi : inB f 1125899906842624
      case false =>
        rw [show wholeE t f = 2 by simp [wholeE, hf, h0, hi]]
        go_enter Try.func36, Try.ntmps36
        go_wp2_with fail
        refine (fits_any _ _).mono ?_
        rintro e w' ⟨rfl, rfl⟩
        go_wp2_with fail
        refine (within_any _ _ _).mono ?_
        rintro e w' ⟨rfl, rfl⟩
        go_wp2
        go_ret
        exact ⟨rfl, rfl⟩
      case true =>
        rw [show wholeE t f = 0 by simp [wholeE, hf, h0, hi]]
        go_enter Try.func36, Try.ntmps36
        go_wp2_with fail
        refine (fits_any _ _).mono ?_
        rintro e w' ⟨rfl, rfl⟩
        go_wp2_with fail
        refine (within_any _ _ _).mono ?_
        rintro e w' ⟨rfl, rfl⟩
        go_wp2
        go_ret
        exact ⟨rfl, rfl⟩
theorem apart_any (t : Int) (h : fitB t = true) (w : World) : Calls Try.prog 59 #[.int .i64 t] w fun e w' => e = .returned (.tuple #[.int .u64 (t.natAbs : Int), .int .i64 (sg t)]) ∧ w' = w := by
  have h' : -1125899906842624 ≤ t ∧ t ≤ 1125899906842624 := by simpa [fitB] using h
  obtain ⟨h1, h2⟩ := h'
  clear h
  by_cases h0 : t < 0
  · obtain ⟨n, hn⟩ : ∃ n : Nat, t.natAbs = n := ⟨_, rfl⟩
    rw [show sg t = -1 by simp [sg, h0], hn]
    have e1 : IntKind.i64.wrap (-t) = (n : Int) := by rw [show -t = (n : Int) by omega]; exact wrap_i _ (by omega) (by omega)
    have e2 : IntKind.u64.wrap (n : Int) = (n : Int) := wrap_in _ (by omega)
    have e3 : -t = (n : Int) := by omega
    have e4 : IntKind.i64.wrap (n : Int) = (n : Int) := wrap_i _ (by omega) (by omega)
    go_enter Try.func59, Try.ntmps59
    go_wp2
    go_ret2
    exact ⟨rfl, rfl⟩
  · obtain ⟨n, hn⟩ : ∃ n : Nat, t.natAbs = n := ⟨_, rfl⟩
    rw [show sg t = 1 by simp [sg, h0], hn]
    obtain rfl : t = (n : Int) := by omega
    have e2 : IntKind.u64.wrap (n : Int) = (n : Int) := wrap_in _ (by omega)
    go_enter Try.func59, Try.ntmps59
    go_wp2
    go_ret2
    exact ⟨rfl, rfl⟩
theorem portion_any (a b c : Nat) (ha : a ≤ 1125899906842624) (hb : b ≤ c) (hc : 0 < c) (hc2 : c < 18446744073709551616) (w : World) : Calls Try.prog 60 #[.int .u64 a, .int .u64 b, .int .u64 c] w fun e w' => e = .returned (.tuple #[.int .u64 ((a * b / c : Nat) : Int), .int .u64 ((a * b % c : Nat) : Int)]) ∧ ∃ n, w' = w.drewN n := by
  have hm : a * b ≤ 1125899906842624 * c := Nat.mul_le_mul ha hb
  obtain ⟨N, hN⟩ : ∃ N, N = a * b := ⟨_, rfl⟩
  have hM := Lib.hid (Try.bits_Mul64 a b (by omega) (by omega))
  rw [← hN] at hm hM ⊢
  obtain ⟨hi, hhi⟩ : ∃ hi, hi = N / 18446744073709551616 := ⟨_, rfl⟩
  obtain ⟨lo, hlo⟩ : ∃ lo, lo = N % 18446744073709551616 := ⟨_, rfl⟩
  have hD := Lib.hid (div_any hi lo c (by omega) (by omega) hc2)
  rw [show hi * 18446744073709551616 + lo = N by omega] at hD
  rw [← hhi, ← hlo] at hM
  obtain ⟨G, hG⟩ : ∃ G, G = N / c := ⟨_, rfl⟩
  obtain ⟨H, hH⟩ : ∃ H, H = N % c := ⟨_, rfl⟩
  rw [← hG, ← hH] at hD ⊢
  clear hhi hlo hN hm hG hH
  go_enter Try.func60, Try.ntmps60
  go_wp2_with fail
  refine (hM.out _).mono ?_
  rintro e w' ⟨rfl, rfl⟩
  go_wp2_with fail
  refine (hD.out _).mono ?_
  rintro e w' ⟨rfl, n, rfl⟩
  go_wp2
  go_ret2
  exact ⟨rfl, n, rfl⟩

/-- A part of an amount is at most the amount. -/
theorem part_le (a b c : Nat) (hb : b ≤ c) : a * b / c ≤ a := by
  rcases Nat.eq_zero_or_pos c with rfl | hc
  · simp
  · apply Nat.div_le_of_le_mul
    rw [Nat.mul_comm c]
    exact Nat.mul_le_mul_left _ hb
theorem sg_mul (t : Int) (n : Nat) (h : n ≤ 9223372036854775807) : IntKind.i64.wrap (sg t * (n : Int)) = sg t * (n : Int) := by
  apply wrap_i <;> unfold sg <;> split <;> omega
set_option maxHeartbeats 1000000 in
theorem upTo_any (t a f : Int) (h : fitB t = true) (ha0 : 0 ≤ a) (ha : a ≤ f) (hf : 0 < f) (hf2 : f ≤ 1125899906842624) (w : World) : Calls Try.prog 38 #[.int .i64 t, .int .i64 a, .int .i64 f] w fun e w' => e = .returned (.int .i64 (upV t a f)) ∧ ∃ n, w' = w.drewN n := by
  obtain ⟨A, hA⟩ : ∃ A : Nat, a = A := ⟨a.toNat, by omega⟩
  obtain ⟨F, hF⟩ : ∃ F : Nat, f = F := ⟨f.toNat, by omega⟩
  subst hA hF
  have h' : -1125899906842624 ≤ t ∧ t ≤ 1125899906842624 := by simpa [fitB] using h
  have hP := Lib.hid (portion_any t.natAbs A F (by omega) (by omega) (by omega) (by omega))
  have hAP := Lib.hid (apart_any t h)
  have hV : upV t (A : Int) (F : Int) = sg t * ((if F ≤ 2 * (t.natAbs * A % F) then t.natAbs * A / F + 1 else t.natAbs * A / F : Nat) : Int) := by
    unfold upV halfN
    rw [Int.toNat_natCast, Int.toNat_natCast]
  have hle := part_le t.natAbs A F (by omega)
  have hlt : t.natAbs * A % F < F := Nat.mod_lt _ (by omega)
  obtain ⟨Q, hQ⟩ : ∃ Q, Q = t.natAbs * A / F := ⟨_, rfl⟩
  obtain ⟨R, hR⟩ : ∃ R, R = t.natAbs * A % F := ⟨_, rfl⟩
  rw [← hQ, ← hR] at hP hV
  rw [← hQ] at hle
  rw [← hR] at hlt
  have hS := Lib.hid (sg_mul t)
  rw [hV]
  clear hV h hQ hR
  obtain ⟨T, hT⟩ : ∃ T, T = t.natAbs := ⟨_, rfl⟩
  rw [← hT] at hP hAP hle
  obtain ⟨s, hs⟩ : ∃ s, s = sg t := ⟨_, rfl⟩
  rw [← hs] at hAP hS ⊢
  have hQb : Q ≤ 1125899906842624 := by omega
  clear hT hs hle h'
  have u1 : IntKind.u64.wrap (A : Int) = (A : Int) := wrap_in _ (by omega)
  have u2 : IntKind.u64.wrap (F : Int) = (F : Int) := wrap_in _ (by omega)
  have u3 : IntKind.u64.wrap ((F : Int) - (R : Int)) = (F : Int) - (R : Int) := by rw [IntKind.wrap_u64]; omega
  by_cases hh : F ≤ 2 * R
  · rw [if_pos hh]
    have d1 : (F : Int) - (R : Int) ≤ (R : Int) := by omega
    obtain ⟨Q', hQ'⟩ : ∃ Q', Q' = Q + 1 := ⟨_, rfl⟩
    rw [← hQ']
    have u4 : (Q : Int) + 1 = (Q' : Int) := by omega
    have u5 : IntKind.u64.wrap (Q' : Int) = (Q' : Int) := wrap_in _ (by omega)
    have u6 : IntKind.i64.wrap (Q' : Int) = (Q' : Int) := wrap_i _ (by omega) (by omega)
    have u7 := hS.out Q' (by omega)
    clear hQ' hh
    go_enter Try.func38, Try.ntmps38
    go_wp2_with fail
    refine (hAP.out _).mono ?_
    rintro e w' ⟨rfl, rfl⟩
    go_wp2_with fail
    refine (hP.out _).mono ?_
    rintro e w' ⟨rfl, n, rfl⟩
    go_wp2
    go_ret
    exact ⟨rfl, n, rfl⟩
  · rw [if_neg hh]
    have d1 : ¬ (F : Int) - (R : Int) ≤ (R : Int) := by omega
    have u6 : IntKind.i64.wrap (Q : Int) = (Q : Int) := wrap_i _ (by omega) (by omega)
    have u7 := hS.out Q (by omega)
    clear hh
    go_enter Try.func38, Try.ntmps38
    go_wp2_with fail
    refine (hAP.out _).mono ?_
    rintro e w' ⟨rfl, rfl⟩
    go_wp2_with fail
    refine (hP.out _).mono ?_
    rintro e w' ⟨rfl, n, rfl⟩
    go_wp2
    go_ret
    exact ⟨rfl, n, rfl⟩

end Go.Proofs.Ytamglmenljgbdaa.Sh
