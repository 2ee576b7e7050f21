/-
  What is proved: texts of other seats, joined for this one: what each theorem says. Conditions: as each says.
-/
import Derived.Test.YtogdiiengbmiiaaDoorRows
import Derived.WalkKit
import Derived.WalkSpells
import Derived.WalkLawsBesides
import Derived.Lib.Hide
import Derived.Test.YtogdiiengbmiiaaDoorShelf
import Derived.Laws.Bits64b
import Derived.WalkSmall
namespace Go.Proofs.YtogdiiengbmiiaaDoor.Ra
open Go Go.RowKit Go.Lib Go.Proofs

/-- An amount fits. -/
def fitsB (c : Int) : Bool := decide (-1125899906842624 ≤ c) && decide (c ≤ 1125899906842624)
theorem fitsB_yes {c : Int} (h1 : -1125899906842624 ≤ c) (h2 : c ≤ 1125899906842624) : fitsB c = true := by simp [fitsB, h1, h2]
theorem fitsB_no {c : Int} (h : c < -1125899906842624 ∨ 1125899906842624 < c) : fitsB c = false := by
  simp only [fitsB, Bool.and_eq_false_iff, decide_eq_false_iff_not]; omega
theorem fitsB_iff {c : Int} : fitsB c = true ↔ -1125899906842624 ≤ c ∧ c ≤ 1125899906842624 := by simp [fitsB]

theorem fits_any (c : Int) (w : World) : Calls Tryd.prog 48 #[.int .i64 c] w fun e w' => e = .returned (.bool (fitsB c)) ∧ w = w' := by
  by_cases h1 : -1125899906842624 ≤ c
  · by_cases h2 : c ≤ 1125899906842624
    · rw [fitsB_yes h1 h2]
      go_enter Tryd.func48, Tryd.ntmps48
      go_wp2
      go_ret
      exact ⟨rfl, rfl⟩
    · rw [fitsB_no (by omega)]
      go_enter Tryd.func48, Tryd.ntmps48
      go_wp2
      go_ret
      exact ⟨rfl, rfl⟩
  · rw [fitsB_no (by omega)]
    go_enter Tryd.func48, Tryd.ntmps48
    go_wp2
    go_ret
    exact ⟨rfl, rfl⟩


/-- So many rounds of the division: the rest, the quotient, and the bits that are left. -/
def divL : Nat → Nat → Nat → Nat → Nat → Nat × Nat
  | 0, _, r, q, _ => (q, r)
  | n + 1, den, r, q, lo => if den ≤ 2 * r + lo / 9223372036854775808 then divL n den (2 * r + lo / 9223372036854775808 - den) (2 * q % 18446744073709551616 + 1) (2 * lo % 18446744073709551616) else divL n den (2 * r + lo / 9223372036854775808) (2 * q % 18446744073709551616) (2 * lo % 18446744073709551616)

theorem top_bits (D P lo : Nat) (hDP : D * P = 9223372036854775808) : lo / D = lo / 9223372036854775808 * P + (2 * lo % 18446744073709551616) / (2 * D) := by
  have hD : 0 < D := by
    rcases Nat.eq_zero_or_pos D with h | h
    · rw [h] at hDP; simp at hDP
    · exact h
  have h1 : 2 * lo % 18446744073709551616 = 2 * (lo % 9223372036854775808) := by omega
  rw [h1, Nat.mul_div_mul_left _ _ (by omega)]
  have h2 : lo = D * (P * (lo / 9223372036854775808)) + lo % 9223372036854775808 := by
    rw [← Nat.mul_assoc, hDP]; omega
  have h3 : lo / D = (D * (P * (lo / 9223372036854775808)) + lo % 9223372036854775808) / D := by rw [← h2]
  rw [h3, Nat.mul_add_div hD, Nat.mul_comm P]

theorem divL_eq (n : Nat) : ∀ (den r q lo : Nat), n ≤ 64 → r < den → lo < 18446744073709551616 → q * 2 ^ n + (r * 2 ^ n + lo / 2 ^ (64 - n)) / den < 18446744073709551616 →
    divL n den r q lo = (q * 2 ^ n + (r * 2 ^ n + lo / 2 ^ (64 - n)) / den, (r * 2 ^ n + lo / 2 ^ (64 - n)) % den) := by
  induction n with
  | zero =>
    intro den r q lo _ hr hlo _
    have h0 : lo / 2 ^ (64 - 0) = 0 := Nat.div_eq_of_lt (by simpa using hlo)
    rw [divL, h0]
    simp [Nat.div_eq_of_lt hr, Nat.mod_eq_of_lt hr]
  | succ n ih =>
    intro den r q lo hn hr hlo hb
    have e64 : 64 - n = (63 - n) + 1 := by omega
    have e63 : 64 - (n + 1) = 63 - n := by omega
    rw [e63] at hb ⊢
    have hDP : 2 ^ (63 - n) * 2 ^ n = 9223372036854775808 := by
      rw [← Nat.pow_add, show 63 - n + n = 63 by omega]
    have ht := top_bits _ _ lo hDP
    rw [Nat.pow_succ 2 n] at hb ⊢
    have i1 := fun r2 q2 => ih den r2 q2 (2 * lo % 18446744073709551616) (by omega)
    rw [e64, Nat.pow_succ] at i1
    generalize hP : (2 : Nat) ^ n = P at hb ht i1 hDP ⊢
    generalize hD : (2 : Nat) ^ (63 - n) = D at hb ht i1 hDP ⊢
    rw [Nat.mul_comm D 2] at i1
    have hl2 : 2 * lo % 18446744073709551616 < 18446744073709551616 := Nat.mod_lt _ (by decide)
    generalize hT : (2 * lo % 18446744073709551616) / (2 * D) = T at ht i1
    generalize hB : lo / 9223372036854775808 = b at ht ⊢
    have hPpos : 0 < P := by
      rcases Nat.eq_zero_or_pos P with h | h
      · rw [h] at hDP; simp at hDP
      · exact h
    have key : r * (P * 2) + lo / D = (2 * r + b) * P + T := by
      rw [ht, Nat.add_mul, Nat.mul_comm P 2, ← Nat.mul_assoc, Nat.mul_comm r 2, Nat.add_assoc]
    rw [key] at hb ⊢
    have hq2 : q * (P * 2) = 2 * q * P := by rw [Nat.mul_comm P 2, ← Nat.mul_assoc, Nat.mul_comm q 2]
    rw [hq2] at hb ⊢
    have hqs : 2 * q < 18446744073709551616 := by
      have h1 : 2 * q ≤ 2 * q * P := Nat.le_mul_of_pos_right _ hPpos
      exact Nat.lt_of_le_of_lt h1 (Nat.lt_of_le_of_lt (Nat.le_add_right _ _) hb)
    have hqm : 2 * q % 18446744073709551616 = 2 * q := Nat.mod_eq_of_lt hqs
    have hdpos : 0 < den := by omega
    rw [divL, hB, hqm]
    by_cases hc : den ≤ 2 * r + b
    · rw [if_pos hc]
      obtain ⟨r3, hr3⟩ : ∃ r3, 2 * r + b = den + r3 := ⟨2 * r + b - den, by omega⟩
      have hb2 : b < 2 := by rw [← hB]; omega
      have hr3d : r3 < den := by omega
      rw [hr3, show den + r3 - den = r3 by omega]
      rw [hr3] at hb
      have e1 : (den + r3) * P + T = den * P + (r3 * P + T) := by rw [Nat.add_mul, Nat.add_assoc]
      rw [e1, Nat.mul_add_div hdpos] at hb
      rw [e1, Nat.mul_add_div hdpos, Nat.mul_add_mod]
      have e2 : (2 * q + 1) * P = 2 * q * P + P := by rw [Nat.add_mul, Nat.one_mul]
      rw [i1 r3 (2 * q + 1) hr3d hl2 (by rw [e2]; omega), e2]
      congr 1
      omega
    · rw [if_neg hc]
      rw [i1 (2 * r + b) (2 * q) (by omega) hl2 hb]

/-- The whole division. -/
theorem divL_whole (den hi lo : Nat) (hh : hi < den) (hlo : lo < 18446744073709551616) : divL 64 den hi 0 lo = ((hi * 18446744073709551616 + lo) / den, (hi * 18446744073709551616 + lo) % den) := by
  have hlt : (hi * 18446744073709551616 + lo) / den < 18446744073709551616 := by
    rw [Nat.div_lt_iff_lt_mul (by omega)]
    have : (hi + 1) * 18446744073709551616 ≤ den * 18446744073709551616 := Nat.mul_le_mul_right _ hh
    rw [Nat.mul_comm 18446744073709551616 den]
    omega
  have e : (2 : Nat) ^ 64 = 18446744073709551616 := by decide
  have h := divL_eq 64 den hi 0 lo (by omega) hh hlo
  rw [e, show 64 - 64 = 0 from rfl, Nat.pow_zero, Nat.div_one, Nat.zero_mul, Nat.zero_add] at h
  exact h hlt


open Go Go.RowKit Go.Proofs

theorem size_any (n : Int) (h1 : -9223372036854775808 ≤ n) (h2 : n ≤ 9223372036854775807) (w : World) : Calls Tryd.prog 73 #[.int .i64 n] w fun e w' => e = .returned (.int .u64 (n.natAbs : Int)) ∧ w = w' := by
  by_cases hn : n < 0
  · have hwr : IntKind.u64.wrap (-IntKind.u64.wrap n) = (n.natAbs : Int) := by rw [IntKind.wrap_u64, IntKind.wrap_u64]; omega
    go_enter Tryd.func73, Tryd.ntmps73
    go_wp2
    go_ret
    exact ⟨rfl, rfl⟩
  · have hwr : IntKind.u64.wrap n = (n.natAbs : Int) := by rw [IntKind.wrap_u64]; omega
    go_enter Tryd.func73, Tryd.ntmps73
    go_wp2
    go_ret
    exact ⟨rfl, rfl⟩

theorem multiply_any (a b : Nat) (ha : a < 18446744073709551616) (hb : b < 18446744073709551616) (w : World) : Calls Tryd.prog 72 #[.int .u64 a, .int .u64 b] w fun e w' => e = .returned (.agg #[.int .u64 ((a * b / 18446744073709551616 : Nat) : Int), .int .u64 ((a * b % 18446744073709551616 : Nat) : Int)]) ∧ Below w.heap.size w w' := by
  obtain ⟨hi, hhi⟩ : ∃ hi : Nat, hi = a * b / 18446744073709551616 := ⟨_, rfl⟩
  obtain ⟨lo, hlo⟩ : ∃ lo : Nat, lo = a * b % 18446744073709551616 := ⟨_, rfl⟩
  have H := Tryd.bits_Mul64 a b ha hb
  rw [← hhi, ← hlo] at H ⊢
  have HM := Lib.hid H
  clear H hhi hlo
  go_enter Tryd.func72, Tryd.ntmps72
  go_wp2_with fail
  refine (HM.out _).mono ?_
  rintro e w' ⟨rfl, rfl⟩
  go_wp2
  exact bodyPost_ret (v := .agg #[.int .u64 hi, .int .u64 lo]) (by simp [results, Tryd.results72, go_sem]) rfl ⟨rfl, (Below.refl _ _).alloc (Nat.le_refl _) _⟩

theorem or_even (r b : Nat) (hr : 2 * r < 18446744073709551616) (hb : b < 2) : bits BinOp.or IntKind.u64 ((r : Int) * 2) (b : Int) = ((2 * r + b : Nat) : Int) := by
  have h := bits_or_u64_nat (2 * r) b hr (by omega)
  rw [show (((2 * r : Nat)) : Int) = (r : Int) * 2 by omega] at h
  rw [h]
  have h2 := Nat.two_pow_add_eq_or_of_lt (i := 1) (b := b) (by simpa using hb) r
  rw [Nat.pow_one] at h2
  rw [← h2]
theorem or_one (q : Nat) (hq : q < 18446744073709551616) (he : q % 2 = 0) : bits BinOp.or IntKind.u64 (q : Int) 1 = ((q + 1 : Nat) : Int) := by
  obtain ⟨r, rfl⟩ : ∃ r, q = 2 * r := ⟨q / 2, by omega⟩
  have h := or_even r 1 hq (by omega)
  rw [show (((2 * r : Nat)) : Int) = (r : Int) * 2 by omega]
  exact h

set_option maxHeartbeats 1000000 in
theorem divide_loop (hi lo den : Nat) (hlo : lo < 18446744073709551616) (hden : den ≤ 9223372036854775807) (hh : hi < den) (w : World) :
    Calls Tryd.prog 74 #[.agg #[.int .u64 hi, .int .u64 lo], .int .u64 den] w fun e w' => e = .returned (.tuple #[.int .u64 (divL 64 den hi 0 lo).1, .int .u64 (divL 64 den hi 0 lo).2, .bool true]) ∧ Below w.heap.size w w' := by
  have hh' : ¬ den ≤ hi := by omega
  obtain ⟨R, hR⟩ : ∃ R, R = divL 64 den hi 0 lo := ⟨_, rfl⟩
  rw [← hR]
  have HR := Lib.hid hR
  clear hR
  go_enter Tryd.func74, Tryd.ntmps74
  go_wp2
  go_loopw [4, 5, 13] (fun q r i wr => ∃ k qn rn ln : Nat, k ≤ 64 ∧ qn < 18446744073709551616 ∧ rn < den ∧ ln < 18446744073709551616 ∧ i = .int .i64 k ∧ q = .int .u64 qn ∧ r = .int .u64 rn ∧ wr = w.alloc (.cells #[.int .u64 hi, .int .u64 ln] 118) ∧ Hid (divL (64 - k) den rn qn ln = R)) (fun _ _ i _ => 64 - (RowKit.intOf i).toNat)
  case atStart => exact ⟨0, 0, hi, lo, by omega, by omega, hh, hlo, rfl, rfl, rfl, rfl, Lib.hid HR.out.symm⟩
  case round =>
    obtain ⟨k, qn, rn, ln, hk, hq, hr, hl, rfl, rfl, rfl, rfl, HZ⟩ := hrel
    by_cases hlt : k < 64
    · have ek : 64 - k = (64 - (k + 1)) + 1 := by omega
      obtain ⟨b, hb⟩ : ∃ b, b = ln / 9223372036854775808 := ⟨_, rfl⟩
      obtain ⟨r2, hr2⟩ : ∃ r2, r2 = 2 * rn + b := ⟨_, rfl⟩
      obtain ⟨q2, hq2⟩ : ∃ q2, q2 = 2 * qn % 18446744073709551616 := ⟨_, rfl⟩
      obtain ⟨l2, hl2⟩ : ∃ l2, l2 = 2 * ln % 18446744073709551616 := ⟨_, rfl⟩
      have hb2 : b < 2 := by omega
      have o1 : bits BinOp.or IntKind.u64 ((rn : Int) * 2) ((ln : Int) / 9223372036854775808) = (r2 : Int) := by
        rw [show (ln : Int) / 9223372036854775808 = ((b : Nat) : Int) by omega, or_even rn b (by omega) hb2, hr2]
      have o2 : IntKind.u64.wrap ((qn : Int) * 2) = (q2 : Int) := by rw [IntKind.wrap_u64]; omega
      have o3 : IntKind.u64.wrap ((ln : Int) * 2) = (l2 : Int) := by rw [IntKind.wrap_u64]; omega
      obtain ⟨q3, hq3⟩ : ∃ q3, q3 = q2 + 1 := ⟨_, rfl⟩
      have o4 : bits BinOp.or IntKind.u64 (q2 : Int) 1 = (q3 : Int) := by rw [or_one q2 (by omega) (by omega), hq3]
      have b1 : q3 < 18446744073709551616 := by omega
      have b2 : q2 < 18446744073709551616 := by omega
      have b3 : l2 < 18446744073709551616 := by omega
      have b4 : r2 < 2 * den := by omega
      by_cases hc : den ≤ r2
      · have HN : Hid (divL (64 - (k + 1)) den (r2 - den) q3 l2 = R) := Lib.hid (by
          rw [← HZ.out, ek, divL, ← hb, ← hr2, ← hq2, ← hl2, if_pos hc, hq3])
        clear hb hr2 hq2 hl2 hq3 ek HZ
        go_wp2
        refine ⟨⟨k + 1, q3, r2 - den, l2, by omega, b1, by omega, b3, by go_num, rfl, ?_, rfl, HN⟩, by simp [RowKit.intOf]; omega⟩
        exact congrArg (Value.int IntKind.u64) (by omega)
      · have HN : Hid (divL (64 - (k + 1)) den r2 q2 l2 = R) := Lib.hid (by
          rw [← HZ.out, ek, divL, ← hb, ← hr2, ← hq2, ← hl2, if_neg hc])
        clear hb hr2 hq2 hl2 hq3 ek HZ
        go_wp2
        exact ⟨⟨k + 1, q2, r2, l2, by omega, b2, by omega, b3, by go_num, rfl, rfl, rfl, HN⟩, by simp [RowKit.intOf]; omega⟩
    · have HN : Hid (R = (qn, rn)) := Lib.hid (by rw [← HZ.out, show 64 - k = 0 by omega]; rfl)
      clear HZ
      go_wp2
      go_ret3
      obtain rfl := HN.out
      exact ⟨rfl, (Below.refl _ _).alloc (Nat.le_refl _) _⟩

theorem divide_yes (hi lo den : Nat) (hlo : lo < 18446744073709551616) (hden : den ≤ 9223372036854775807) (hh : hi < den) (w : World) :
    Calls Tryd.prog 74 #[.agg #[.int .u64 hi, .int .u64 lo], .int .u64 den] w fun e w' => e = .returned (.tuple #[.int .u64 ((hi * 18446744073709551616 + lo) / den : Nat), .int .u64 ((hi * 18446744073709551616 + lo) % den : Nat), .bool true]) ∧ Below w.heap.size w w' := by
  have h := divide_loop hi lo den hlo hden hh w
  rwa [divL_whole den hi lo hh hlo] at h

theorem divide_no (hi lo den : Nat) (hh : ¬ hi < den) (w : World) :
    Calls Tryd.prog 74 #[.agg #[.int .u64 hi, .int .u64 lo], .int .u64 den] w fun e w' => e = .returned (.tuple #[.int .u64 0, .int .u64 0, .bool false]) ∧ Below w.heap.size w w' := by
  have hh' : den ≤ hi := by omega
  go_enter Tryd.func74, Tryd.ntmps74
  go_wp2
  go_ret3
  exact ⟨rfl, (Below.refl _ _).alloc (Nat.le_refl _) _⟩


open Go Go.RowKit Go.Proofs

/-- Whether a mode rounds away from 0. -/
def awayB (mode : Int) (below odd : Bool) (rest den : Nat) : Bool :=
  if mode = 4 then (below && decide (0 < rest)) else if mode = 3 then decide (0 < rest)
  else if mode = 2 then (if odd = true then decide (den ≤ 2 * rest) else decide (den < 2 * rest)) else if mode = 1 then decide (den ≤ 2 * rest) else false

theorem ret_bool {a b : Bool} (h : a = b) : Ending.returned (.bool a) = .returned (.bool b) := by rw [h]

set_option maxHeartbeats 1000000 in
theorem isAway_any (mode : Int) (h0 : 0 ≤ mode) (h4 : mode ≤ 4) (below odd : Bool) (rest den : Nat) (hr : rest < den) (hd : den ≤ 9223372036854775807) (w : World) :
    Calls Tryd.prog 75 #[.int .i64 mode, .bool below, .bool odd, .int .u64 rest, .int .u64 den] w fun e w' => e = .returned (.bool (awayB mode below odd rest den)) ∧ w = w' := by
  have hm : mode = 0 ∨ mode = 1 ∨ mode = 2 ∨ mode = 3 ∨ mode = 4 := by omega
  have e1 : decide ((den : Int) ≤ (rest : Int) * 2) = decide (den ≤ 2 * rest) := by rw [Bool.eq_iff_iff]; simp; omega
  have e2 : decide ((den : Int) < (rest : Int) * 2) = decide (den < 2 * rest) := by rw [Bool.eq_iff_iff]; simp; omega
  have E1 := Lib.hid e1
  have E2 := Lib.hid e2
  clear e1 e2
  rcases hm with rfl | rfl | rfl | rfl | rfl
  · rw [show awayB 0 below odd rest den = false from rfl]
    go_enter Tryd.func75, Tryd.ntmps75
    go_wp2
    go_ret
    exact ⟨rfl, rfl⟩
  · rw [show awayB 1 below odd rest den = decide (den ≤ 2 * rest) from rfl]
    go_enter Tryd.func75, Tryd.ntmps75
    go_wp2
    go_ret
    exact ⟨ret_bool E1.out, rfl⟩
  · cases odd
    · rw [show awayB 2 below false rest den = decide (den < 2 * rest) from rfl]
      go_enter Tryd.func75, Tryd.ntmps75
      go_wp2
      go_ret
      exact ⟨ret_bool E2.out, rfl⟩
    · rw [show awayB 2 below true rest den = decide (den ≤ 2 * rest) from rfl]
      go_enter Tryd.func75, Tryd.ntmps75
      go_wp2
      go_ret
      exact ⟨ret_bool E1.out, rfl⟩
  · by_cases c : 0 < rest
    · rw [show awayB 3 below odd rest den = true by simp [awayB, c]]
      go_enter Tryd.func75, Tryd.ntmps75
      go_wp2
      go_ret
      exact ⟨rfl, rfl⟩
    · rw [show awayB 3 below odd rest den = false by simp only [awayB]; simp; omega]
      go_enter Tryd.func75, Tryd.ntmps75
      go_wp2
      go_ret
      exact ⟨rfl, rfl⟩
  · cases below
    · rw [show awayB 4 false odd rest den = false from rfl]
      go_enter Tryd.func75, Tryd.ntmps75
      go_wp2
      go_ret
      exact ⟨rfl, rfl⟩
    · by_cases c : 0 < rest
      · rw [show awayB 4 true odd rest den = true by simp [awayB, c]]
        go_enter Tryd.func75, Tryd.ntmps75
        go_wp2
        go_ret
        exact ⟨rfl, rfl⟩
      · rw [show awayB 4 true odd rest den = false by simp only [awayB]; simp; omega]
        go_enter Tryd.func75, Tryd.ntmps75
        go_wp2
        go_ret
        exact ⟨rfl, rfl⟩

/-- A whole number, rounded. -/
def roundQ (A den : Nat) (mode : Int) (below : Bool) : Nat := A / den + (if awayB mode below (decide (A / den % 2 = 1)) (A % den) den = true then 1 else 0)
def belowB (n num : Int) : Bool := decide (n < 0) != decide (num < 0)
/-- n * num / den, rounded, if it is not farther from 0 than most. -/
def portO (n num : Int) (den : Nat) (mode : Int) (most : Nat) : Option Int :=
  if roundQ (n.natAbs * num.natAbs) den mode (belowB n num) ≤ most then some (if belowB n num = true then -(roundQ (n.natAbs * num.natAbs) den mode (belowB n num) : Int) else roundQ (n.natAbs * num.natAbs) den mode (belowB n num)) else none
def portVE : Option Int → Int × Bool
  | none => (0, false)
  | some c => (c, true)

theorem roundQ_ge (A den : Nat) (mode : Int) (below : Bool) : A / den ≤ roundQ A den mode below := by unfold roundQ; omega

set_option maxHeartbeats 1000000 in
set_option maxRecDepth 100000 in
theorem portion_any (n num den mode : Int) (most : Nat) (n1 : -9223372036854775808 ≤ n) (n2 : n ≤ 9223372036854775807) (m1 : -9223372036854775808 ≤ num) (m2 : num ≤ 9223372036854775807) (d1 : 0 < den) (d2 : den ≤ 9223372036854775807) (o1 : 0 ≤ mode) (o2 : mode ≤ 4) (hmost : most ≤ 1125899906842624) (w : World) :
    Calls Tryd.prog 59 #[.int .i64 n, .int .i64 num, .int .i64 den, .int .i64 mode, .int .u64 most] w fun e w' => e = .returned (.tuple #[.int .i64 (portVE (portO n num den.toNat mode most)).1, .bool (portVE (portO n num den.toNat mode most)).2]) ∧ Below w.heap.size w w' := by
  obtain ⟨D, rfl⟩ := Int.eq_ofNat_of_zero_le (Int.le_of_lt d1)
  rw [Int.toNat_natCast]
  obtain ⟨R, hR⟩ : ∃ R, R = portVE (portO n num D mode most) := ⟨_, rfl⟩
  rw [← hR]
  unfold portO at hR
  have hbe : (!(decide (n < 0) == decide (num < 0))) = belowB n num := rfl
  generalize belowB n num = below at hR hbe
  obtain ⟨a, ha⟩ : ∃ a, a = n.natAbs := ⟨_, rfl⟩
  obtain ⟨b, hb⟩ : ∃ b, b = num.natAbs := ⟨_, rfl⟩
  have ha2 : a < 18446744073709551616 := by omega
  have hb2 : b < 18446744073709551616 := by omega
  have HS1 := size_any n n1 n2
  have HS2 := size_any num m1 m2
  have HM := multiply_any a b ha2 hb2
  rw [← ha] at HS1 hR
  rw [← hb] at HS2 hR
  obtain ⟨A, hA⟩ : ∃ A, A = a * b := ⟨_, rfl⟩
  rw [← hA] at HM hR
  have H1 := Lib.hid HS1
  have H2 := Lib.hid HS2
  obtain ⟨hi, hhi⟩ : ∃ hi, hi = A / 18446744073709551616 := ⟨_, rfl⟩
  obtain ⟨lo, hlo⟩ : ∃ lo, lo = A % 18446744073709551616 := ⟨_, rfl⟩
  rw [← hhi, ← hlo] at HM
  have H3 := Lib.hid HM
  have hlo2 : lo < 18446744073709551616 := by omega
  have hAe : hi * 18446744073709551616 + lo = A := by omega
  clear HS1 HS2 HM ha hb
  by_cases hh : hi < D
  · have HD := divide_yes hi lo D hlo2 (by omega) hh
    rw [hAe] at HD
    obtain ⟨q, hq⟩ : ∃ q, q = A / D := ⟨_, rfl⟩
    obtain ⟨r, hr⟩ : ∃ r, r = A % D := ⟨_, rfl⟩
    have hrD : r < D := by rw [hr]; exact Nat.mod_lt _ (by omega)
    have hq64 : q < 18446744073709551616 := by
      rw [hq, Nat.div_lt_iff_lt_mul (by omega)]
      have : (hi + 1) * 18446744073709551616 ≤ D * 18446744073709551616 := Nat.mul_le_mul_right _ hh
      rw [Nat.mul_comm 18446744073709551616 D]
      omega
    rw [← hq, ← hr] at HD
    have H4 := Lib.hid HD
    unfold roundQ at hR
    rw [← hq, ← hr] at hR
    have HR := Lib.hid hR
    clear hR HD hq hr hAe hlo hhi hA
    go_enter Tryd.func59, Tryd.ntmps59
    go_wp2_with fail
    refine (H1.out _).mono ?_
    rintro e w' ⟨rfl, rfl⟩
    go_wp2_with fail
    refine (H2.out _).mono ?_
    rintro e w' ⟨rfl, rfl⟩
    go_wp2_with fail
    refine (H3.out _).mono ?_
    rintro e w1 ⟨rfl, hb1⟩
    go_wp2_with fail
    refine (H4.out _).mono ?_
    rintro e w2 ⟨rfl, hb2⟩
    have hb12 := hb1.trans (hb2.mono hb1.size)
    by_cases hqm : most < q
    · obtain rfl : R = (0, false) := by rw [HR.out, if_neg (by omega)]; rfl
      go_wp2
      go_ret2
      exact ⟨rfl, hb12⟩
    obtain ⟨odd, hod⟩ : ∃ odd, odd = decide (q % 2 = 1) := ⟨_, rfl⟩
    have hodd : (bits BinOp.and IntKind.u64 (q : Int) 1 == 1) = odd := by
      rw [and_one_u64 _ (by omega) (by omega), hod, Bool.eq_iff_iff]; simp; omega
    have HA := isAway_any mode o1 o2 below odd r D hrD (by omega) w2
    have hR2 := HR.out
    rw [← hod] at hR2
    cases hav : awayB mode below odd r D with
    | true =>
      rw [hav] at HA hR2
      simp only [if_true] at hR2
      have H5 := Lib.hid HA
      have HR2 := Lib.hid hR2
      clear HA hR2 hav hod HR
      go_wp2_with fail
      refine (H5.out).mono ?_
      rintro e w' ⟨rfl, rfl⟩
      by_cases hq2 : most < q + 1
      · obtain rfl : R = (0, false) := by rw [HR2.out, if_neg (by omega)]; rfl
        go_wp2
        go_ret2
        exact ⟨rfl, hb12⟩
      · have hR3 := HR2.out
        rw [if_pos (by omega)] at hR3
        cases below
        · obtain rfl : R = ((q : Int) + 1, true) := hR3
          clear HR2
          go_wp2
          go_ret2
          exact ⟨rfl, hb12⟩
        · obtain rfl : R = (-((q : Int) + 1), true) := hR3
          clear HR2
          go_wp2
          go_ret2
          exact ⟨rfl, hb12⟩
    | false =>
      rw [hav] at HA hR2
      simp only [Bool.false_eq_true, if_false, Nat.add_zero] at hR2
      have H5 := Lib.hid HA
      have HR2 := Lib.hid hR2
      clear HA hR2 hav hod HR
      go_wp2_with fail
      refine (H5.out).mono ?_
      rintro e w' ⟨rfl, rfl⟩
      have hR3 := HR2.out
      rw [if_pos (by omega)] at hR3
      cases below
      · obtain rfl : R = ((q : Int), true) := hR3
        clear HR2
        go_wp2
        go_ret2
        exact ⟨rfl, hb12⟩
      · obtain rfl : R = (-(q : Int), true) := hR3
        clear HR2
        go_wp2
        go_ret2
        exact ⟨rfl, hb12⟩
  · have HD := divide_no hi lo D hh
    have H4 := Lib.hid HD
    have hbig : most < A / D := by
      have h1 : 18446744073709551616 ≤ A / D := by
        rw [Nat.le_div_iff_mul_le (by omega)]
        have : D * 18446744073709551616 ≤ hi * 18446744073709551616 := Nat.mul_le_mul_right _ (by omega)
        rw [Nat.mul_comm 18446744073709551616 D]
        omega
      omega
    obtain rfl : R = (0, false) := by
      rw [hR, if_neg (by have := roundQ_ge A D mode below; omega)]; rfl
    clear hR HD hAe hlo hhi hA hbig
    go_enter Tryd.func59, Tryd.ntmps59
    go_wp2_with fail
    refine (H1.out _).mono ?_
    rintro e w' ⟨rfl, rfl⟩
    go_wp2_with fail
    refine (H2.out _).mono ?_
    rintro e w' ⟨rfl, rfl⟩
    go_wp2_with fail
    refine (H3.out _).mono ?_
    rintro e w1 ⟨rfl, hb1⟩
    go_wp2_with fail
    refine (H4.out _).mono ?_
    rintro e w2 ⟨rfl, hb2⟩
    have hb12 := hb1.trans (hb2.mono hb1.size)
    go_wp2
    go_ret2
    exact ⟨rfl, hb12⟩


open Go Go.RowKit Go.Proofs

/-- A rate is right. -/
def rightB (r : Int) : Bool := decide (-1000000000 ≤ r) && decide (r ≤ 1000000000)
theorem rightB_yes {c : Int} (h1 : -1000000000 ≤ c) (h2 : c ≤ 1000000000) : rightB c = true := by simp [rightB, h1, h2]
theorem rightB_no {c : Int} (h : c < -1000000000 ∨ 1000000000 < c) : rightB c = false := by
  simp only [rightB, Bool.and_eq_false_iff, decide_eq_false_iff_not]; omega
theorem rightB_iff {c : Int} : rightB c = true ↔ -1000000000 ≤ c ∧ c ≤ 1000000000 := by simp [rightB]

theorem right_any (c : Int) (w : World) : Calls Tryd.prog 46 #[.int .i64 c] w fun e w' => e = .returned (.bool (rightB c)) ∧ w = w' := by
  by_cases h1 : -1000000000 ≤ c
  · by_cases h2 : c ≤ 1000000000
    · rw [rightB_yes h1 h2]
      go_enter Tryd.func46, Tryd.ntmps46
      go_wp2
      go_ret
      exact ⟨rfl, rfl⟩
    · rw [rightB_no (by omega)]
      go_enter Tryd.func46, Tryd.ntmps46
      go_wp2
      go_ret
      exact ⟨rfl, rfl⟩
  · rw [rightB_no (by omega)]
    go_enter Tryd.func46, Tryd.ntmps46
    go_wp2
    go_ret
    exact ⟨rfl, rfl⟩

/-- A part, or the error's number. -/
def partVE (c num den mode : Int) : Int × Int :=
  if fitsB c = true then (if den = 0 then (0, 22) else if den < 0 then (0, 2) else if mode < 0 ∨ 4 < mode then (0, 11) else
    match portO c num den.toNat mode 1125899906842624 with
    | none => (0, 9)
    | some p => (p, 0)) else (0, 2)

set_option maxHeartbeats 1000000 in
theorem part_any (c num den mode : Int) (n1 : -9223372036854775808 ≤ num) (n2 : num ≤ 9223372036854775807) (d2 : den ≤ 9223372036854775807) (w : World) :
    Calls Tryd.prog 47 #[.int .i64 c, .int .i64 num, .int .i64 den, .int .i64 mode] w fun e w' => e = .returned (.tuple #[.int .i64 (partVE c num den mode).1, .int .i64 (partVE c num den mode).2]) ∧ Below w.heap.size w w' := by
  by_cases hf : fitsB c = true
  · obtain ⟨f1, f2⟩ := fitsB_iff.1 hf
    by_cases h0 : den = 0
    · rw [show partVE c num den mode = (0, 22) by simp [partVE, hf, h0]]
      subst h0
      go_enter Tryd.func47, Tryd.ntmps47
      go_wp2_with (first | (go_at_call 48; refine (fits_any _ _).mono ?_; rintro e w' ⟨rfl, rfl⟩))
      go_ret2
      exact ⟨rfl, Below.refl _ _⟩
    have h0b : (den == 0) = false := beq_eq_false_iff_ne.2 h0
    by_cases h1 : den < 0
    · rw [show partVE c num den mode = (0, 2) by simp [partVE, hf, h0, h1]]
      go_enter Tryd.func47, Tryd.ntmps47
      go_wp2_with (first | (go_at_call 48; refine (fits_any _ _).mono ?_; rintro e w' ⟨rfl, rfl⟩))
      go_ret2
      exact ⟨rfl, Below.refl _ _⟩
    by_cases h2 : mode < 0
    · rw [show partVE c num den mode = (0, 11) by simp [partVE, hf, h0, h1, h2]]
      go_enter Tryd.func47, Tryd.ntmps47
      go_wp2_with (first | (go_at_call 48; refine (fits_any _ _).mono ?_; rintro e w' ⟨rfl, rfl⟩))
      go_ret2
      exact ⟨rfl, Below.refl _ _⟩
    by_cases h3 : 4 < mode
    · rw [show partVE c num den mode = (0, 11) by simp [partVE, hf, h0, h1, h3]]
      go_enter Tryd.func47, Tryd.ntmps47
      go_wp2_with (first | (go_at_call 48; refine (fits_any _ _).mono ?_; rintro e w' ⟨rfl, rfl⟩))
      go_ret2
      exact ⟨rfl, Below.refl _ _⟩
    have HP := portion_any c num den mode 1125899906842624 (by omega) (by omega) n1 n2 (by omega) d2 (by omega) (by omega) (Nat.le_refl _) w
    have hpv : partVE c num den mode = match portO c num den.toNat mode 1125899906842624 with
      | none => (0, 9)
      | some p => (p, 0) := by
        unfold partVE; rw [if_pos hf, if_neg h0, if_neg h1, if_neg (by omega)]
    rw [hpv]
    cases hO : portO c num den.toNat mode 1125899906842624 with
    | none =>
      rw [hO] at HP
      have H := Lib.hid HP
      clear HP hpv hO h0
      simp only [portVE] at H
      go_enter Tryd.func47, Tryd.ntmps47
      go_wp2_with fail
      refine (fits_any _ _).mono ?_
      rintro e w' ⟨rfl, rfl⟩
      go_wp2_with fail
      refine (H.out).mono ?_
      rintro e w1 ⟨rfl, hb⟩
      go_wp2
      go_ret2
      exact ⟨rfl, hb⟩
    | some p =>
      rw [hO] at HP
      have H := Lib.hid HP
      clear HP hpv hO h0
      simp only [portVE] at H
      go_enter Tryd.func47, Tryd.ntmps47
      go_wp2_with fail
      refine (fits_any _ _).mono ?_
      rintro e w' ⟨rfl, rfl⟩
      go_wp2_with fail
      refine (H.out).mono ?_
      rintro e w1 ⟨rfl, hb⟩
      go_wp2
      go_ret2
      exact ⟨rfl, hb⟩
  · simp only [Bool.not_eq_true] at hf
    rw [show partVE c num den mode = (0, 2) by simp [partVE, hf]]
    go_enter Tryd.func47, Tryd.ntmps47
    go_wp2_with (first | (go_at_call 48; refine (fits_any _ _).mono ?_; rintro e w' ⟨rfl, rfl⟩))
    go_ret2
    exact ⟨rfl, Below.refl _ _⟩

/-- The part r of c. -/
def ofVE (c r mode : Int) : Int × Int := if rightB r = true then partVE c r 1000000 mode else (0, 2)

theorem of_any (c r mode : Int) (w : World) : Calls Tryd.prog 29 #[.int .i64 c, .int .i64 r, .int .i64 mode] w fun e w' => e = .returned (.tuple #[.int .i64 (ofVE c r mode).1, .int .i64 (ofVE c r mode).2]) ∧ Below w.heap.size w w' := by
  by_cases hr : rightB r = true
  · obtain ⟨f1, f2⟩ := rightB_iff.1 hr
    rw [show ofVE c r mode = partVE c r 1000000 mode by simp [ofVE, hr]]
    have H := Lib.hid (part_any c r 1000000 mode (by omega) (by omega) (by omega) w)
    go_enter Tryd.func29, Tryd.ntmps29
    go_wp2_with fail
    refine (right_any _ _).mono ?_
    rintro e w' ⟨rfl, rfl⟩
    go_wp2_with fail
    refine (H.out).mono ?_
    rintro e w1 ⟨rfl, hb⟩
    go_wp2
    go_ret2
    exact ⟨rfl, hb⟩
  · simp only [Bool.not_eq_true] at hr
    rw [show ofVE c r mode = (0, 2) by simp [ofVE, hr]]
    go_enter Tryd.func29, Tryd.ntmps29
    go_wp2_with fail
    refine (right_any _ _).mono ?_
    rintro e w' ⟨rfl, rfl⟩
    go_wp2
    go_ret2
    exact ⟨rfl, Below.refl _ _⟩


open Go Go.RowKit Go.Proofs

theorem away_below {mode : Int} (h : mode ≠ 4) (b1 b2 odd : Bool) (r d : Nat) : awayB mode b1 odd r d = awayB mode b2 odd r d := by
  unfold awayB; rw [if_neg h, if_neg h]
theorem round_below {mode : Int} (h : mode ≠ 4) (A den : Nat) (b1 b2 : Bool) : roundQ A den mode b1 = roundQ A den mode b2 := by
  unfold roundQ; rw [away_below h b1 b2]
theorem away_zero (mode : Int) (b odd : Bool) (den : Nat) (hd : 0 < den) : awayB mode b odd 0 den = false := by
  unfold awayB
  repeat' split
  all_goals simp
  all_goals omega
theorem round_exact (k den : Nat) (mode : Int) (b : Bool) (hd : 0 < den) : roundQ (k * den) den mode b = k := by
  unfold roundQ
  rw [Nat.mul_mod_left, away_zero _ _ _ _ hd, Nat.mul_div_cancel _ hd]; simp
theorem below_comm (a b : Int) : belowB b a = belowB a b := by
  unfold belowB; cases decide (a < 0) <;> cases decide (b < 0) <;> rfl
theorem port_comm (a b : Int) (den : Nat) (mode : Int) (most : Nat) : portO b a den mode most = portO a b den mode most := by
  unfold portO; rw [below_comm, Nat.mul_comm]
theorem below_neg {n : Int} (h : n ≠ 0) (num : Int) : belowB (-n) num = !belowB n num := by
  unfold belowB
  by_cases h1 : n < 0
  · rw [decide_eq_true h1, decide_eq_false (show ¬ (-n < 0) by omega)]; cases decide (num < 0) <;> rfl
  · rw [decide_eq_false h1, decide_eq_true (show -n < 0 by omega)]; cases decide (num < 0) <;> rfl
theorem round_zero (den : Nat) (mode : Int) (b : Bool) (hd : 0 < den) : roundQ 0 den mode b = 0 := by
  have := round_exact 0 den mode b hd
  rwa [Nat.zero_mul] at this
theorem port_neg (n num : Int) (den : Nat) (mode : Int) (most : Nat) (hm : mode ≠ 4) (hd : 0 < den) : portO (-n) num den mode most = (portO n num den mode most).map (fun x => -x) := by
  by_cases h : n = 0
  · subst h
    unfold portO
    simp only [Int.neg_zero, Int.natAbs_zero, Nat.zero_mul, round_zero den mode _ hd]
    simp
  · unfold portO
    rw [Int.natAbs_neg, below_neg h, round_below hm _ _ (!belowB n num) (belowB n num)]
    split
    · simp only [Option.map_some]
      cases belowB n num <;> simp
    · rfl
/-- The whole part. -/
theorem port_one (n : Int) (den : Nat) (mode : Int) (most : Nat) (hd : 0 < den) (hn : n.natAbs ≤ most) : portO n (den : Int) den mode most = some n := by
  unfold portO
  rw [Int.natAbs_natCast, round_exact _ _ _ _ hd, if_pos hn]
  unfold belowB
  by_cases h : n < 0
  · have : ¬ ((den : Int) < 0) := by omega
    simp [h, this]; omega
  · have : ¬ ((den : Int) < 0) := by omega
    simp [h, this]; omega


open Go Go.RowKit Go.Proofs

/-- N / D, rounded by a mode. -/
def rnd (mode : Int) (D : Nat) (N : Int) : Int := if N < 0 then -(roundQ N.natAbs D mode true : Int) else roundQ N.natAbs D mode false

theorem port_rnd (c num : Int) (D : Nat) (mode : Int) (most : Nat) (hD : 0 < D) : portO c num D mode most = if (rnd mode D (c * num)).natAbs ≤ most then some (rnd mode D (c * num)) else none := by
  have hA : c.natAbs * num.natAbs = (c * num).natAbs := (Int.natAbs_mul c num).symm
  unfold portO
  rw [hA]
  by_cases h0 : c * num = 0
  · rw [h0]
    have e : rnd mode D 0 = 0 := by unfold rnd; rw [if_neg (by omega)]; rw [Int.natAbs_zero, round_zero D mode _ hD]; rfl
    rw [e, Int.natAbs_zero, round_zero D mode _ hD]
    simp
  · have hc0 : c ≠ 0 := fun e => h0 (by rw [e, Int.zero_mul])
    have hn0 : num ≠ 0 := fun e => h0 (by rw [e, Int.mul_zero])
    have hb : belowB c num = decide (c * num < 0) := by
      unfold belowB
      rw [Bool.eq_iff_iff]
      by_cases h1 : c < 0
      · by_cases h2 : num < 0
        · have := Int.mul_pos_of_neg_of_neg h1 h2
          simp [h1, h2]; omega
        · have := Int.mul_neg_of_neg_of_pos h1 (show 0 < num by omega)
          simp [h1, h2, this]
      · by_cases h2 : num < 0
        · have := Int.mul_neg_of_pos_of_neg (show 0 < c by omega) h2
          simp [h1, h2, this]
        · have := Int.mul_pos (show 0 < c by omega) (show 0 < num by omega)
          simp [h1, h2]; omega
    rw [hb]
    unfold rnd
    by_cases hneg : c * num < 0
    · rw [decide_eq_true hneg, if_pos hneg, Int.natAbs_neg, Int.natAbs_natCast]; rfl
    · rw [decide_eq_false hneg, if_neg hneg, Int.natAbs_natCast]; rfl

theorem partVE_val (c num den mode : Int) (hf : fitsB c = true) (hd : 0 < den) (h0 : 0 ≤ mode) (h4 : mode ≤ 4) : partVE c num den mode = if (rnd mode den.toNat (c * num)).natAbs ≤ 1125899906842624 then (rnd mode den.toNat (c * num), 0) else (0, 9) := by
  unfold partVE
  rw [if_pos hf, if_neg (by omega), if_neg (by omega), if_neg (by omega), port_rnd c num _ mode _ (by omega)]
  by_cases h : (rnd mode den.toNat (c * num)).natAbs ≤ 1125899906842624
  · rw [if_pos h, if_pos h]
  · rw [if_neg h, if_neg h]
theorem partVE_ok (c num den mode : Int) (h : (partVE c num den mode).2 = 0) : fitsB c = true ∧ 0 < den ∧ 0 ≤ mode ∧ mode ≤ 4 ∧ (rnd mode den.toNat (c * num)).natAbs ≤ 1125899906842624 ∧ (partVE c num den mode).1 = rnd mode den.toNat (c * num) := by
  by_cases hf : fitsB c = true
  · by_cases h0 : den = 0
    · rw [show partVE c num den mode = (0, 22) by simp [partVE, hf, h0]] at h; cases h
    by_cases h1 : den < 0
    · rw [show partVE c num den mode = (0, 2) by simp [partVE, hf, h0, h1]] at h; cases h
    by_cases h2 : mode < 0 ∨ 4 < mode
    · rw [show partVE c num den mode = (0, 11) by simp only [partVE, hf, if_true, h0, h1, if_false]; rw [if_pos h2]] at h; cases h
    have hv := partVE_val c num den mode hf (by omega) (by omega) (by omega)
    rw [hv] at h ⊢
    by_cases h3 : (rnd mode den.toNat (c * num)).natAbs ≤ 1125899906842624
    · rw [if_pos h3]; exact ⟨hf, by omega, by omega, by omega, h3, rfl⟩
    · rw [if_neg h3] at h; cases h
  · simp only [Bool.not_eq_true] at hf
    rw [show partVE c num den mode = (0, 2) by simp [partVE, hf]] at h; cases h
theorem partVE_err (c num den mode : Int) (h : (partVE c num den mode).2 ≠ 0) : (partVE c num den mode).1 = 0 := by
  unfold partVE at h ⊢
  repeat' split
  all_goals first | rfl | skip
  rename_i h1 h2 h3 h4 _ p hp
  rw [if_pos h1, if_neg h2, if_neg h3, if_neg h4, hp] at h
  exact absurd rfl h

/-- Rounded as Half does: at most half a den away. -/
theorem rnd_half (D : Nat) (N : Int) (hD : 0 < D) : 2 * N - D ≤ 2 * (rnd 1 D N * D) ∧ 2 * (rnd 1 D N * D) ≤ 2 * N + D := by
  have key : ∀ (A : Nat) (b : Bool), 2 * (A : Int) - D ≤ 2 * ((roundQ A D 1 b : Int) * D) ∧ 2 * ((roundQ A D 1 b : Int) * D) ≤ 2 * A + D := by
    intro A b
    have h1 := Nat.div_add_mod A D
    have h2 := Nat.mod_lt A hD
    unfold roundQ
    have e : awayB 1 b (decide (A / D % 2 = 1)) (A % D) D = decide (D ≤ 2 * (A % D)) := rfl
    rw [e]
    generalize hq : A / D = q at h1
    generalize hr : A % D = r at h1 h2
    have hz : ((q : Int) * D) = ((D * q : Nat) : Int) := by rw [Int.natCast_mul, Int.mul_comm]
    by_cases hc : D ≤ 2 * r
    · rw [decide_eq_true hc, if_pos rfl]
      have e2 : ((q + 1 : Nat) : Int) * D = ((D * q : Nat) : Int) + D := by rw [Int.natCast_add, Int.add_mul, hz]; simp
      rw [e2]; omega
    · rw [decide_eq_false hc, if_neg (by simp)]
      rw [Nat.add_zero, hz]; omega
  unfold rnd
  by_cases h : N < 0
  · rw [if_pos h]
    have k := key N.natAbs true
    rw [Int.neg_mul]
    omega
  · rw [if_neg h]
    have k := key N.natAbs false
    omega
/-- Rounded as Floor does: not above, and less than one den below. -/
theorem rnd_floor (D : Nat) (N : Int) (hD : 0 < D) : rnd 4 D N * D ≤ N ∧ N < rnd 4 D N * D + D := by
  unfold rnd
  by_cases h : N < 0
  · rw [if_pos h]
    have h1 := Nat.div_add_mod N.natAbs D
    have h2 := Nat.mod_lt N.natAbs hD
    unfold roundQ
    have e : awayB 4 true (decide (N.natAbs / D % 2 = 1)) (N.natAbs % D) D = decide (0 < N.natAbs % D) := rfl
    rw [e]
    generalize hq : N.natAbs / D = q at h1
    generalize hr : N.natAbs % D = r at h1 h2
    have hz : ((q : Int) * D) = ((D * q : Nat) : Int) := by rw [Int.natCast_mul, Int.mul_comm]
    rw [Int.neg_mul]
    by_cases hc : 0 < r
    · rw [decide_eq_true hc, if_pos rfl]
      have e2 : ((q + 1 : Nat) : Int) * D = ((D * q : Nat) : Int) + D := by rw [Int.natCast_add, Int.add_mul, hz]; simp
      rw [e2]; omega
    · rw [decide_eq_false hc, if_neg (by simp)]
      rw [Nat.add_zero, hz]; omega
  · rw [if_neg h]
    have h1 := Nat.div_add_mod N.natAbs D
    have h2 := Nat.mod_lt N.natAbs hD
    unfold roundQ
    have e : awayB 4 false (decide (N.natAbs / D % 2 = 1)) (N.natAbs % D) D = false := rfl
    rw [e, if_neg (by simp), Nat.add_zero]
    have hz : (((N.natAbs / D : Nat) : Int) * D) = ((D * (N.natAbs / D) : Nat) : Int) := by rw [Int.natCast_mul, Int.mul_comm]
    rw [hz]; omega

theorem round_rises (D : Nat) (mode : Int) (b : Bool) (A B : Nat) (h : A ≤ B) : roundQ A D mode b ≤ roundQ B D mode b := by
  have hq := Nat.div_le_div_right (c := D) h
  have ha : ∀ X, roundQ X D mode b ≤ X / D + 1 := by intro X; unfold roundQ; split <;> omega
  by_cases he : A / D = B / D
  · have h1 := Nat.div_add_mod A D
    have h2 := Nat.div_add_mod B D
    have hr : A % D ≤ B % D := by rw [he] at h1; omega
    unfold roundQ
    rw [he]
    by_cases hc : awayB mode b (decide (B / D % 2 = 1)) (A % D) D = true
    · have hc2 : awayB mode b (decide (B / D % 2 = 1)) (B % D) D = true := by
        unfold awayB at hc ⊢
        generalize decide (B / D % 2 = 1) = odd at hc ⊢
        repeat' split at hc
        all_goals simp_all
        all_goals omega
      rw [if_pos hc, if_pos hc2]; exact Nat.le_refl _
    · rw [if_neg hc]; omega
  · have := ha A
    have := roundQ_ge B D mode b
    omega
theorem rnd_rises (mode : Int) (D : Nat) (M N : Int) (h : M ≤ N) : rnd mode D M ≤ rnd mode D N := by
  unfold rnd
  by_cases h1 : M < 0
  · rw [if_pos h1]
    by_cases h2 : N < 0
    · rw [if_pos h2]
      have := round_rises D mode true N.natAbs M.natAbs (by omega)
      omega
    · rw [if_neg h2]; omega
  · rw [if_neg h1, if_neg (by omega)]
    have := round_rises D mode false M.natAbs N.natAbs (by omega)
    omega

theorem round_scale (A D k : Nat) (hk : 0 < k) (mode : Int) (b : Bool) : roundQ (A * k) (D * k) mode b = roundQ A D mode b := by
  unfold roundQ
  rw [Nat.mul_div_mul_right _ _ hk, Nat.mul_mod_mul_right]
  have e : awayB mode b (decide (A / D % 2 = 1)) (A % D * k) (D * k) = awayB mode b (decide (A / D % 2 = 1)) (A % D) D := by
    unfold awayB
    have e0 : decide (0 < A % D * k) = decide (0 < A % D) := by
      rw [Bool.eq_iff_iff]; simp only [decide_eq_true_eq]
      constructor
      · intro h; exact Nat.pos_of_mul_pos_right h
      · intro h; exact Nat.mul_pos h hk
    have e1 : decide (D * k ≤ 2 * (A % D * k)) = decide (D ≤ 2 * (A % D)) := by
      rw [Bool.eq_iff_iff, ← Nat.mul_assoc]; simp only [decide_eq_true_eq]
      constructor
      · intro h; exact Nat.le_of_mul_le_mul_right h hk
      · intro h; exact Nat.mul_le_mul_right _ h
    have e2 : decide (D * k < 2 * (A % D * k)) = decide (D < 2 * (A % D)) := by
      rw [Bool.eq_iff_iff, ← Nat.mul_assoc]; simp only [decide_eq_true_eq]
      constructor
      · intro h; exact Nat.lt_of_mul_lt_mul_right h
      · intro h; exact Nat.mul_lt_mul_of_pos_right h hk
    rw [e0, e1, e2]
  rw [e]
theorem rnd_scale (mode : Int) (D k : Nat) (hk : 0 < k) (N : Int) : rnd mode (D * k) (N * k) = rnd mode D N := by
  unfold rnd
  have e : (N * k).natAbs = N.natAbs * k := by rw [Int.natAbs_mul, Int.natAbs_natCast]
  rw [e, round_scale _ _ _ hk, round_scale _ _ _ hk]
  by_cases h : N < 0
  · rw [if_pos h, if_pos (Int.mul_neg_of_neg_of_pos h (by omega))]
  · rw [if_neg h, if_neg (Int.not_lt.2 (Int.mul_nonneg (by omega) (by omega)))]
theorem rnd_exact (mode : Int) (D : Nat) (hD : 0 < D) (k : Int) : rnd mode D (k * D) = k := by
  unfold rnd
  have e : (k * D).natAbs = k.natAbs * D := by rw [Int.natAbs_mul, Int.natAbs_natCast]
  rw [e, round_exact _ _ _ _ hD, round_exact _ _ _ _ hD]
  by_cases h : k < 0
  · rw [if_pos (Int.mul_neg_of_neg_of_pos h (by omega))]; omega
  · rw [if_neg (Int.not_lt.2 (Int.mul_nonneg (by omega) (by omega)))]; omega


open Go Go.RowKit Go.Lib Go.Proofs

end Go.Proofs.YtogdiiengbmiiaaDoor.Ra
