/-
  What is proved: plain facts on dividing a number of two digits and a half by one of two, digit by digit, as math/bits.Div64 does; and on the shifts ahead of it. Conditions: none.
-/
import Derived.Lib.BitFns
import Derived.Lib.ItoaNum
namespace Go.Proofs.Ytbflgckmhhmklaa.Sh

/-- What is known of a digit that is guessed: y1, y0 are the divisor's digits, u the dividend's head, d its next digit. -/
def KInv (y1 y0 u d q rh : Nat) : Prop := q * y1 + rh = u ∧ u * 4294967296 + d < q * (y1 * 4294967296 + y0) + (y1 * 4294967296 + y0) ∧ q ≤ 4294967297
theorem q_split (q y1 y0 : Nat) : q * (y1 * 4294967296 + y0) = q * y1 * 4294967296 + q * y0 := by rw [Nat.mul_add, Nat.mul_assoc]
theorem k_start {y1 y0 u d : Nat} (h1 : 2147483648 ≤ y1) (h0 : y0 < 4294967296) (hu : u < y1 * 4294967296 + y0) (hd : d < 4294967296) : KInv y1 y0 u d (u / y1) (u % y1) := by
  have hm := Nat.mod_lt u (show 0 < y1 by omega)
  have he := Nat.div_add_mod u y1
  rw [Nat.mul_comm] at he
  refine ⟨he, ?_, ?_⟩
  · rw [q_split]
    generalize u / y1 * y1 = A at he ⊢
    generalize u / y1 * y0 = C
    omega
  · have : u / y1 < 4294967298 := by rw [Nat.div_lt_iff_lt_mul (by omega)]; omega
    omega
theorem k_step {y1 y0 u d q rh : Nat} (h : KInv y1 y0 u d q rh) (hu : u < y1 * 4294967296 + y0) (hd : d < 4294967296) (hc : 4294967296 ≤ q ∨ 4294967296 * rh + d < q * y0) : 0 < q ∧ KInv y1 y0 u d (q - 1) (rh + y1) := by
  obtain ⟨e1, e2, e3⟩ := h
  have hq : 0 < q := by
    rcases hc with h | h
    · omega
    · rcases Nat.eq_zero_or_pos q with e | e
      · rw [e, Nat.zero_mul] at h; omega
      · exact e
  obtain ⟨p, rfl⟩ : ∃ p, q = p + 1 := ⟨q - 1, by omega⟩
  refine ⟨hq, ?_, ?_, by omega⟩
  · rw [show p + 1 - 1 = p by omega]
    rw [Nat.add_mul, Nat.one_mul] at e1
    omega
  · rw [show p + 1 - 1 = p by omega]
    have key : u * 4294967296 + d < (p + 1) * (y1 * 4294967296 + y0) := by
      rcases hc with h | h
      · obtain ⟨y, hy'⟩ : ∃ y, y = y1 * 4294967296 + y0 := ⟨_, rfl⟩
        rw [← hy'] at hu ⊢
        have := Nat.mul_le_mul_right y h
        obtain ⟨Z, hZ⟩ : ∃ Z, Z = (p + 1) * y := ⟨_, rfl⟩
        rw [← hZ] at this ⊢
        omega
      · rw [q_split]
        generalize (p + 1) * y1 = A at e1 ⊢
        generalize (p + 1) * y0 = C at h ⊢
        omega
    rw [Nat.add_mul, Nat.one_mul] at key
    exact key
theorem k_done {y1 y0 u d q rh : Nat} (h : KInv y1 y0 u d q rh) (hle : q * y0 ≤ 4294967296 * rh + d) : q = (u * 4294967296 + d) / (y1 * 4294967296 + y0) := by
  obtain ⟨e1, e2, -⟩ := h
  symm
  have hle2 : q * (y1 * 4294967296 + y0) ≤ u * 4294967296 + d := by
    rw [q_split]
    generalize q * y1 = A at e1 ⊢
    generalize q * y0 = C at hle ⊢
    omega
  obtain ⟨y, hy'⟩ : ∃ y, y = y1 * 4294967296 + y0 := ⟨_, rfl⟩
  obtain ⟨V, hV⟩ : ∃ V, V = u * 4294967296 + d := ⟨_, rfl⟩
  rw [← hy', ← hV] at e2 hle2 ⊢
  apply Nat.div_eq_of_lt_le hle2
  rw [Nat.succ_mul]
  exact e2
theorem k_break {y0 d q rh : Nat} (h0 : y0 < 4294967296) (hq : q ≤ 4294967296) (hr : 4294967296 ≤ rh) : q * y0 ≤ 4294967296 * rh + d := by
  have h1 : q * y0 ≤ 4294967296 * 4294967295 := Nat.mul_le_mul hq (by omega)
  have h2 : 4294967296 * 4294967296 ≤ 4294967296 * rh := Nat.mul_le_mul_left _ hr
  omega

theorem bl_lower : ∀ k : Nat, k ≤ 64 → ∀ x, 0 < x → x < 2 ^ k → 2 ^ (Go.Lib.bitLen x - 1) ≤ x ∧ x < 2 ^ Go.Lib.bitLen x ∧ 1 ≤ Go.Lib.bitLen x
  | 0, _, x, h0, h => by simp at h; omega
  | k + 1, hk, x, h0, h => by
    have hx64 : x < 2 ^ 64 := Nat.lt_of_lt_of_le h (Nat.pow_le_pow_right (by omega) (by omega))
    have hb := Go.Lib.bitLen_half x (by omega) hx64
    by_cases h2 : x < 2
    · obtain rfl : x = 1 := by omega
      decide +kernel
    · have ih := bl_lower k (by omega) (x / 2) (by omega) (by rw [Nat.pow_succ] at h; omega)
      obtain ⟨i1, i2, i3⟩ := ih
      rw [hb]
      generalize Go.Lib.bitLen (x / 2) = L at i1 i2 i3
      refine ⟨?_, ?_, by omega⟩
      · rw [show 1 + L - 1 = (L - 1) + 1 by omega, Nat.pow_succ]; omega
      · rw [show 1 + L = L + 1 by omega, Nat.pow_succ]; omega
/-- How far a number is shifted, so that its greatest bit is set. -/
theorem shift_of (y : Nat) (h0 : 0 < y) (h : y < 18446744073709551616) : Go.Lib.bitLen y ≤ 64 ∧ 9223372036854775808 ≤ y * 2 ^ (64 - Go.Lib.bitLen y) ∧ y * 2 ^ (64 - Go.Lib.bitLen y) < 18446744073709551616 ∧ 64 - Go.Lib.bitLen y < 64 := by
  obtain ⟨h1, h2, h3⟩ := bl_lower 64 (Nat.le_refl _) y h0 (by simpa using h)
  have h4 := Go.Lib.bitLen_le y 64 (Nat.le_refl _) (by simpa using h)
  generalize Go.Lib.bitLen y = L at h1 h2 h3 h4 ⊢
  have e1 : 2 ^ (L - 1) * 2 ^ (64 - L) = 9223372036854775808 := by rw [← Nat.pow_add, show L - 1 + (64 - L) = 63 by omega]
  have e2 : 2 ^ L * 2 ^ (64 - L) = 18446744073709551616 := by rw [← Nat.pow_add, show L + (64 - L) = 64 by omega]
  refine ⟨h4, ?_, ?_, by omega⟩
  · rw [← e1]; exact Nat.mul_le_mul_right _ h1
  · rw [← e2]; exact Nat.mul_lt_mul_of_pos_right h2 (Nat.two_pow_pos _)
/-- The dividend, shifted. -/
theorem shift_parts (hi lo s : Nat) (hs : s ≤ 64) : (hi * 2 ^ s + lo / 2 ^ (64 - s)) * 18446744073709551616 + lo * 2 ^ s % 18446744073709551616 = (hi * 18446744073709551616 + lo) * 2 ^ s := by
  have e : 2 ^ (64 - s) * 2 ^ s = 18446744073709551616 := by rw [← Nat.pow_add, show 64 - s + s = 64 by omega]
  have hm := Nat.div_add_mod lo (2 ^ (64 - s))
  have hl := Nat.mod_lt lo (Nat.two_pow_pos (64 - s))
  have h1 : lo * 2 ^ s = lo / 2 ^ (64 - s) * 18446744073709551616 + lo % 2 ^ (64 - s) * 2 ^ s := by
    conv => lhs; rw [← hm]
    rw [Nat.add_mul, Nat.mul_comm (2 ^ (64 - s)), Nat.mul_assoc, e]
  have h2 : lo % 2 ^ (64 - s) * 2 ^ s < 18446744073709551616 := by rw [← e]; exact Nat.mul_lt_mul_of_pos_right hl (Nat.two_pow_pos _)
  have h3 : lo * 2 ^ s % 18446744073709551616 = lo % 2 ^ (64 - s) * 2 ^ s := by
    rw [h1, Nat.add_comm, Nat.add_mul_mod_self_right, Nat.mod_eq_of_lt h2]
  rw [h3, Nat.add_mul, Nat.add_mul, h1]
  generalize lo / 2 ^ (64 - s) = P
  generalize lo % 2 ^ (64 - s) * 2 ^ s = Q
  rw [Nat.mul_right_comm hi (2 ^ s)]
  omega
theorem low_small (lo s : Nat) (hs : s ≤ 64) (h : lo < 18446744073709551616) : lo / 2 ^ (64 - s) < 2 ^ s := by
  have e : 2 ^ s * 2 ^ (64 - s) = 18446744073709551616 := by rw [← Nat.pow_add, show s + (64 - s) = 64 by omega]
  rw [Nat.div_lt_iff_lt_mul (Nat.two_pow_pos _), e]
  exact h
/-- Two digits, one behind the other. -/
theorem two_digits (U u d1 d0 y s N : Nat) (hy : 0 < y) (hU : (u * 4294967296 + d1) * 4294967296 + d0 = N * 2 ^ s) (hYy : U = y * 2 ^ s) :
    N / y = (u * 4294967296 + d1) / U * 4294967296 + ((u * 4294967296 + d1) % U * 4294967296 + d0) / U ∧ N % y = ((u * 4294967296 + d1) % U * 4294967296 + d0) % U / 2 ^ s := by
  have hp := Nat.two_pow_pos s
  have hU0 : 0 < U := by rw [hYy]; exact Nat.mul_pos hy hp
  obtain ⟨V, hV⟩ : ∃ V, V = u * 4294967296 + d1 := ⟨_, rfl⟩
  rw [← hV] at hU ⊢
  have hv := Nat.div_add_mod V U
  have key : N * 2 ^ s = U * (V / U * 4294967296) + (V % U * 4294967296 + d0) := by
    rw [← hU]
    conv => lhs; rw [← hv]
    rw [Nat.add_mul, Nat.mul_assoc]
    omega
  have q1 : N / y = N * 2 ^ s / U := by rw [hYy, Nat.mul_div_mul_right _ _ hp]
  have r1 : N % y * 2 ^ s = N * 2 ^ s % U := by rw [hYy, Nat.mul_mod_mul_right]
  refine ⟨?_, ?_⟩
  · rw [q1, key, Nat.mul_add_div hU0]
  · have : N * 2 ^ s % U = (V % U * 4294967296 + d0) % U := by rw [key, Nat.mul_add_mod]
    rw [← this, ← r1, Nat.mul_div_cancel _ hp]

end Go.Proofs.Ytbflgckmhhmklaa.Sh
