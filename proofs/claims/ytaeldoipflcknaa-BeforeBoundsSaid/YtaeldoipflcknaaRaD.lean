/-
  What is proved: the contracts of rate's isAway, portion, Part, Of and Times, by plain functions on whole numbers. Conditions: as each says.
-/
import Derived.Test.YtaeldoipflcknaaRaC
import Derived.WalkSmall
namespace Go.Proofs.Ytaeldoipflcknaa.Ra
open Go Go.RowKit Go.Proofs

/-- Whether a mode rounds away from 0. -/
def awayB (mode : Int) (below odd : Bool) (rest den : Nat) : Bool :=
  if mode = 4 then (below && decide (0 < rest)) else if mode = 3 then decide (0 < rest)
  else if mode = 2 then (if odd = true then decide (den ≤ 2 * rest) else decide (den < 2 * rest)) else if mode = 1 then decide (den ≤ 2 * rest) else false

theorem ret_bool {a b : Bool} (h : a = b) : Ending.returned (.bool a) = .returned (.bool b) := by rw [h]

set_option maxHeartbeats 1000000 in
theorem isAway_any (mode : Int) (h0 : 0 ≤ mode) (h4 : mode ≤ 4) (below odd : Bool) (rest den : Nat) (hr : rest < den) (hd : den ≤ 9223372036854775807) (w : World) :
    Calls Try.prog 49 #[.int .i64 mode, .bool below, .bool odd, .int .u64 rest, .int .u64 den] w fun e w' => e = .returned (.bool (awayB mode below odd rest den)) ∧ w = w' := by
  have hm : mode = 0 ∨ mode = 1 ∨ mode = 2 ∨ mode = 3 ∨ mode = 4 := by omega
  have e1 : decide ((den : Int) ≤ (rest : Int) * 2) = decide (den ≤ 2 * rest) := by rw [Bool.eq_iff_iff]; simp; omega
  have e2 : decide ((den : Int) < (rest : Int) * 2) = decide (den < 2 * rest) := by rw [Bool.eq_iff_iff]; simp; omega
  have E1 := Lib.hid e1
  have E2 := Lib.hid e2
  clear e1 e2
  rcases hm with rfl | rfl | rfl | rfl | rfl
  · rw [show awayB 0 below odd rest den = false from rfl]
    go_enter Try.func49, Try.ntmps49
    go_wp2
    go_ret
    exact ⟨rfl, rfl⟩
  · rw [show awayB 1 below odd rest den = decide (den ≤ 2 * rest) from rfl]
    go_enter Try.func49, Try.ntmps49
    go_wp2
    go_ret
    exact ⟨ret_bool E1.out, rfl⟩
  · cases odd
    · rw [show awayB 2 below false rest den = decide (den < 2 * rest) from rfl]
      go_enter Try.func49, Try.ntmps49
      go_wp2
      go_ret
      exact ⟨ret_bool E2.out, rfl⟩
    · rw [show awayB 2 below true rest den = decide (den ≤ 2 * rest) from rfl]
      go_enter Try.func49, Try.ntmps49
      go_wp2
      go_ret
      exact ⟨ret_bool E1.out, rfl⟩
  · by_cases c : 0 < rest
    · rw [show awayB 3 below odd rest den = true by simp [awayB, c]]
      go_enter Try.func49, Try.ntmps49
      go_wp2
      go_ret
      exact ⟨rfl, rfl⟩
    · rw [show awayB 3 below odd rest den = false by simp only [awayB]; simp; omega]
      go_enter Try.func49, Try.ntmps49
      go_wp2
      go_ret
      exact ⟨rfl, rfl⟩
  · cases below
    · rw [show awayB 4 false odd rest den = false from rfl]
      go_enter Try.func49, Try.ntmps49
      go_wp2
      go_ret
      exact ⟨rfl, rfl⟩
    · by_cases c : 0 < rest
      · rw [show awayB 4 true odd rest den = true by simp [awayB, c]]
        go_enter Try.func49, Try.ntmps49
        go_wp2
        go_ret
        exact ⟨rfl, rfl⟩
      · rw [show awayB 4 true odd rest den = false by simp only [awayB]; simp; omega]
        go_enter Try.func49, Try.ntmps49
        go_wp2
        go_ret
        exact ⟨rfl, rfl⟩

/-- A whole number, rounded. -/
def roundQ (A den : Nat) (mode : Int) (below : Bool) : Nat := A / den + (if awayB mode below (decide (A / den % 2 = 1)) (A % den) den = true then 1 else 0)
def belowB (n num : Int) : Bool := decide (n < 0) != decide (num < 0)
/-- n * num / den, rounded, if it is not farther from 0 than most. -/
def portO (n num : Int) (den : Nat) (mode : Int) (most : Nat) : Option Int :=
  if roundQ (n.natAbs * num.natAbs) den mode (belowB n num) ≤ most then some (if belowB n num = true then -(roundQ (n.natAbs * num.natAbs) den mode (belowB n num) : Int) else roundQ (n.natAbs * num.natAbs) den mode (belowB n num)) else none
def portVE : Option Int → Int × Bool
  | none => (0, false)
  | some c => (c, true)

theorem roundQ_ge (A den : Nat) (mode : Int) (below : Bool) : A / den ≤ roundQ A den mode below := by unfold roundQ; omega

set_option maxHeartbeats 1000000 in
set_option maxRecDepth 100000 in
theorem portion_any (n num den mode : Int) (most : Nat) (n1 : -9223372036854775808 ≤ n) (n2 : n ≤ 9223372036854775807) (m1 : -9223372036854775808 ≤ num) (m2 : num ≤ 9223372036854775807) (d1 : 0 < den) (d2 : den ≤ 9223372036854775807) (o1 : 0 ≤ mode) (o2 : mode ≤ 4) (hmost : most ≤ 1125899906842624) (w : World) :
    Calls Try.prog 45 #[.int .i64 n, .int .i64 num, .int .i64 den, .int .i64 mode, .int .u64 most] w fun e w' => e = .returned (.tuple #[.int .i64 (portVE (portO n num den.toNat mode most)).1, .bool (portVE (portO n num den.toNat mode most)).2]) ∧ Below w.heap.size w w' := by
  obtain ⟨D, rfl⟩ := Int.eq_ofNat_of_zero_le (Int.le_of_lt d1)
  rw [Int.toNat_natCast]
  obtain ⟨R, hR⟩ : ∃ R, R = portVE (portO n num D mode most) := ⟨_, rfl⟩
  rw [← hR]
  unfold portO at hR
  have hbe : (!(decide (n < 0) == decide (num < 0))) = belowB n num := rfl
  generalize belowB n num = below at hR hbe
  obtain ⟨a, ha⟩ : ∃ a, a = n.natAbs := ⟨_, rfl⟩
  obtain ⟨b, hb⟩ : ∃ b, b = num.natAbs := ⟨_, rfl⟩
  have ha2 : a < 18446744073709551616 := by omega
  have hb2 : b < 18446744073709551616 := by omega
  have HS1 := size_any n n1 n2
  have HS2 := size_any num m1 m2
  have HM := multiply_any a b ha2 hb2
  rw [← ha] at HS1 hR
  rw [← hb] at HS2 hR
  obtain ⟨A, hA⟩ : ∃ A, A = a * b := ⟨_, rfl⟩
  rw [← hA] at HM hR
  have H1 := Lib.hid HS1
  have H2 := Lib.hid HS2
  obtain ⟨hi, hhi⟩ : ∃ hi, hi = A / 18446744073709551616 := ⟨_, rfl⟩
  obtain ⟨lo, hlo⟩ : ∃ lo, lo = A % 18446744073709551616 := ⟨_, rfl⟩
  rw [← hhi, ← hlo] at HM
  have H3 := Lib.hid HM
  have hlo2 : lo < 18446744073709551616 := by omega
  have hAe : hi * 18446744073709551616 + lo = A := by omega
  clear HS1 HS2 HM ha hb
  by_cases hh : hi < D
  · have HD := divide_yes hi lo D hlo2 (by omega) hh
    rw [hAe] at HD
    obtain ⟨q, hq⟩ : ∃ q, q = A / D := ⟨_, rfl⟩
    obtain ⟨r, hr⟩ : ∃ r, r = A % D := ⟨_, rfl⟩
    have hrD : r < D := by rw [hr]; exact Nat.mod_lt _ (by omega)
    have hq64 : q < 18446744073709551616 := by
      rw [hq, Nat.div_lt_iff_lt_mul (by omega)]
      have : (hi + 1) * 18446744073709551616 ≤ D * 18446744073709551616 := Nat.mul_le_mul_right _ hh
      rw [Nat.mul_comm 18446744073709551616 D]
      omega
    rw [← hq, ← hr] at HD
    have H4 := Lib.hid HD
    unfold roundQ at hR
    rw [← hq, ← hr] at hR
    have HR := Lib.hid hR
    clear hR HD hq hr hAe hlo hhi hA
    go_enter Try.func45, Try.ntmps45
    go_wp2_with fail
    refine (H1.out _).mono ?_
    rintro e w' ⟨rfl, rfl⟩
    go_wp2_with fail
    refine (H2.out _).mono ?_
    rintro e w' ⟨rfl, rfl⟩
    go_wp2_with fail
    refine (H3.out _).mono ?_
    rintro e w1 ⟨rfl, hb1⟩
    go_wp2_with fail
    refine (H4.out _).mono ?_
    rintro e w2 ⟨rfl, hb2⟩
    have hb12 := hb1.trans (hb2.mono hb1.size)
    by_cases hqm : most < q
    · obtain rfl : R = (0, false) := by rw [HR.out, if_neg (by omega)]; rfl
      go_wp2
      go_ret2
      exact ⟨rfl, hb12⟩
    obtain ⟨odd, hod⟩ : ∃ odd, odd = decide (q % 2 = 1) := ⟨_, rfl⟩
    have hodd : (bits BinOp.and IntKind.u64 (q : Int) 1 == 1) = odd := by
      rw [and_one_u64 _ (by omega) (by omega), hod, Bool.eq_iff_iff]; simp; omega
    have HA := isAway_any mode o1 o2 below odd r D hrD (by omega) w2
    have hR2 := HR.out
    rw [← hod] at hR2
    cases hav : awayB mode below odd r D with
    | true =>
      rw [hav] at HA hR2
      simp only [if_true] at hR2
      have H5 := Lib.hid HA
      have HR2 := Lib.hid hR2
      clear HA hR2 hav hod HR
      go_wp2_with fail
      refine (H5.out).mono ?_
      rintro e w' ⟨rfl, rfl⟩
      by_cases hq2 : most < q + 1
      · obtain rfl : R = (0, false) := by rw [HR2.out, if_neg (by omega)]; rfl
        go_wp2
        go_ret2
        exact ⟨rfl, hb12⟩
      · have hR3 := HR2.out
        rw [if_pos (by omega)] at hR3
        cases below
        · obtain rfl : R = ((q : Int) + 1, true) := hR3
          clear HR2
          go_wp2
          go_ret2
          exact ⟨rfl, hb12⟩
        · obtain rfl : R = (-((q : Int) + 1), true) := hR3
          clear HR2
          go_wp2
          go_ret2
          exact ⟨rfl, hb12⟩
    | false =>
      rw [hav] at HA hR2
      simp only [Bool.false_eq_true, if_false, Nat.add_zero] at hR2
      have H5 := Lib.hid HA
      have HR2 := Lib.hid hR2
      clear HA hR2 hav hod HR
      go_wp2_with fail
      refine (H5.out).mono ?_
      rintro e w' ⟨rfl, rfl⟩
      have hR3 := HR2.out
      rw [if_pos (by omega)] at hR3
      cases below
      · obtain rfl : R = ((q : Int), true) := hR3
        clear HR2
        go_wp2
        go_ret2
        exact ⟨rfl, hb12⟩
      · obtain rfl : R = (-(q : Int), true) := hR3
        clear HR2
        go_wp2
        go_ret2
        exact ⟨rfl, hb12⟩
  · have HD := divide_no hi lo D hh
    have H4 := Lib.hid HD
    have hbig : most < A / D := by
      have h1 : 18446744073709551616 ≤ A / D := by
        rw [Nat.le_div_iff_mul_le (by omega)]
        have : D * 18446744073709551616 ≤ hi * 18446744073709551616 := Nat.mul_le_mul_right _ (by omega)
        rw [Nat.mul_comm 18446744073709551616 D]
        omega
      omega
    obtain rfl : R = (0, false) := by
      rw [hR, if_neg (by have := roundQ_ge A D mode below; omega)]; rfl
    clear hR HD hAe hlo hhi hA hbig
    go_enter Try.func45, Try.ntmps45
    go_wp2_with fail
    refine (H1.out _).mono ?_
    rintro e w' ⟨rfl, rfl⟩
    go_wp2_with fail
    refine (H2.out _).mono ?_
    rintro e w' ⟨rfl, rfl⟩
    go_wp2_with fail
    refine (H3.out _).mono ?_
    rintro e w1 ⟨rfl, hb1⟩
    go_wp2_with fail
    refine (H4.out _).mono ?_
    rintro e w2 ⟨rfl, hb2⟩
    have hb12 := hb1.trans (hb2.mono hb1.size)
    go_wp2
    go_ret2
    exact ⟨rfl, hb12⟩

end Go.Proofs.Ytaeldoipflcknaa.Ra
