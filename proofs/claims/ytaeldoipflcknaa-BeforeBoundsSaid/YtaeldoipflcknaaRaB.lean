/-
  What is proved: the long division by shifts, as a plain function, comes to the quotient and the rest. Plain mathematics. Conditions: as each says.
-/
import Derived.WalkKit
namespace Go.Proofs.Ytaeldoipflcknaa.Ra

/-- So many rounds of the division: the rest, the quotient, and the bits that are left. -/
def divL : Nat → Nat → Nat → Nat → Nat → Nat × Nat
  | 0, _, r, q, _ => (q, r)
  | n + 1, den, r, q, lo => if den ≤ 2 * r + lo / 9223372036854775808 then divL n den (2 * r + lo / 9223372036854775808 - den) (2 * q % 18446744073709551616 + 1) (2 * lo % 18446744073709551616) else divL n den (2 * r + lo / 9223372036854775808) (2 * q % 18446744073709551616) (2 * lo % 18446744073709551616)

theorem top_bits (D P lo : Nat) (hDP : D * P = 9223372036854775808) : lo / D = lo / 9223372036854775808 * P + (2 * lo % 18446744073709551616) / (2 * D) := by
  have hD : 0 < D := by
    rcases Nat.eq_zero_or_pos D with h | h
    · rw [h] at hDP; simp at hDP
    · exact h
  have h1 : 2 * lo % 18446744073709551616 = 2 * (lo % 9223372036854775808) := by omega
  rw [h1, Nat.mul_div_mul_left _ _ (by omega)]
  have h2 : lo = D * (P * (lo / 9223372036854775808)) + lo % 9223372036854775808 := by
    rw [← Nat.mul_assoc, hDP]; omega
  have h3 : lo / D = (D * (P * (lo / 9223372036854775808)) + lo % 9223372036854775808) / D := by rw [← h2]
  rw [h3, Nat.mul_add_div hD, Nat.mul_comm P]

theorem divL_eq (n : Nat) : ∀ (den r q lo : Nat), n ≤ 64 → r < den → lo < 18446744073709551616 → q * 2 ^ n + (r * 2 ^ n + lo / 2 ^ (64 - n)) / den < 18446744073709551616 →
    divL n den r q lo = (q * 2 ^ n + (r * 2 ^ n + lo / 2 ^ (64 - n)) / den, (r * 2 ^ n + lo / 2 ^ (64 - n)) % den) := by
  induction n with
  | zero =>
    intro den r q lo _ hr hlo _
    have h0 : lo / 2 ^ (64 - 0) = 0 := Nat.div_eq_of_lt (by simpa using hlo)
    rw [divL, h0]
    simp [Nat.div_eq_of_lt hr, Nat.mod_eq_of_lt hr]
  | succ n ih =>
    intro den r q lo hn hr hlo hb
    have e64 : 64 - n = (63 - n) + 1 := by omega
    have e63 : 64 - (n + 1) = 63 - n := by omega
    rw [e63] at hb ⊢
    have hDP : 2 ^ (63 - n) * 2 ^ n = 9223372036854775808 := by
      rw [← Nat.pow_add, show 63 - n + n = 63 by omega]
    have ht := top_bits _ _ lo hDP
    rw [Nat.pow_succ 2 n] at hb ⊢
    have i1 := fun r2 q2 => ih den r2 q2 (2 * lo % 18446744073709551616) (by omega)
    rw [e64, Nat.pow_succ] at i1
    generalize hP : (2 : Nat) ^ n = P at hb ht i1 hDP ⊢
    generalize hD : (2 : Nat) ^ (63 - n) = D at hb ht i1 hDP ⊢
    rw [Nat.mul_comm D 2] at i1
    have hl2 : 2 * lo % 18446744073709551616 < 18446744073709551616 := Nat.mod_lt _ (by decide)
    generalize hT : (2 * lo % 18446744073709551616) / (2 * D) = T at ht i1
    generalize hB : lo / 9223372036854775808 = b at ht ⊢
    have hPpos : 0 < P := by
      rcases Nat.eq_zero_or_pos P with h | h
      · rw [h] at hDP; simp at hDP
      · exact h
    have key : r * (P * 2) + lo / D = (2 * r + b) * P + T := by
      rw [ht, Nat.add_mul, Nat.mul_comm P 2, ← Nat.mul_assoc, Nat.mul_comm r 2, Nat.add_assoc]
    rw [key] at hb ⊢
    have hq2 : q * (P * 2) = 2 * q * P := by rw [Nat.mul_comm P 2, ← Nat.mul_assoc, Nat.mul_comm q 2]
    rw [hq2] at hb ⊢
    have hqs : 2 * q < 18446744073709551616 := by
      have h1 : 2 * q ≤ 2 * q * P := Nat.le_mul_of_pos_right _ hPpos
      exact Nat.lt_of_le_of_lt h1 (Nat.lt_of_le_of_lt (Nat.le_add_right _ _) hb)
    have hqm : 2 * q % 18446744073709551616 = 2 * q := Nat.mod_eq_of_lt hqs
    have hdpos : 0 < den := by omega
    rw [divL, hB, hqm]
    by_cases hc : den ≤ 2 * r + b
    · rw [if_pos hc]
      obtain ⟨r3, hr3⟩ : ∃ r3, 2 * r + b = den + r3 := ⟨2 * r + b - den, by omega⟩
      have hb2 : b < 2 := by rw [← hB]; omega
      have hr3d : r3 < den := by omega
      rw [hr3, show den + r3 - den = r3 by omega]
      rw [hr3] at hb
      have e1 : (den + r3) * P + T = den * P + (r3 * P + T) := by rw [Nat.add_mul, Nat.add_assoc]
      rw [e1, Nat.mul_add_div hdpos] at hb
      rw [e1, Nat.mul_add_div hdpos, Nat.mul_add_mod]
      have e2 : (2 * q + 1) * P = 2 * q * P + P := by rw [Nat.add_mul, Nat.one_mul]
      rw [i1 r3 (2 * q + 1) hr3d hl2 (by rw [e2]; omega), e2]
      congr 1
      omega
    · rw [if_neg hc]
      rw [i1 (2 * r + b) (2 * q) (by omega) hl2 hb]

/-- The whole division. -/
theorem divL_whole (den hi lo : Nat) (hh : hi < den) (hlo : lo < 18446744073709551616) : divL 64 den hi 0 lo = ((hi * 18446744073709551616 + lo) / den, (hi * 18446744073709551616 + lo) % den) := by
  have hlt : (hi * 18446744073709551616 + lo) / den < 18446744073709551616 := by
    rw [Nat.div_lt_iff_lt_mul (by omega)]
    have : (hi + 1) * 18446744073709551616 ≤ den * 18446744073709551616 := Nat.mul_le_mul_right _ hh
    rw [Nat.mul_comm 18446744073709551616 den]
    omega
  have e : (2 : Nat) ^ 64 = 18446744073709551616 := by decide
  have h := divL_eq 64 den hi 0 lo (by omega) hh hlo
  rw [e, show 64 - 64 = 0 from rfl, Nat.pow_zero, Nat.div_one, Nat.zero_mul, Nat.zero_add] at h
  exact h hlt

end Go.Proofs.Ytaeldoipflcknaa.Ra
