/-
  What is proved: plain mathematics of parts: a part as a rounded quotient of one whole number, how near it is, that it rises, and that it does not hang on a common factor. Conditions: as each says.
-/
import Derived.Test.YtaeldoipflcknaaRaF
namespace Go.Proofs.Ytaeldoipflcknaa.Ra
open Go Go.RowKit Go.Proofs

/-- N / D, rounded by a mode. -/
def rnd (mode : Int) (D : Nat) (N : Int) : Int := if N < 0 then -(roundQ N.natAbs D mode true : Int) else roundQ N.natAbs D mode false

theorem port_rnd (c num : Int) (D : Nat) (mode : Int) (most : Nat) (hD : 0 < D) : portO c num D mode most = if (rnd mode D (c * num)).natAbs ≤ most then some (rnd mode D (c * num)) else none := by
  have hA : c.natAbs * num.natAbs = (c * num).natAbs := (Int.natAbs_mul c num).symm
  unfold portO
  rw [hA]
  by_cases h0 : c * num = 0
  · rw [h0]
    have e : rnd mode D 0 = 0 := by unfold rnd; rw [if_neg (by omega)]; rw [Int.natAbs_zero, round_zero D mode _ hD]; rfl
    rw [e, Int.natAbs_zero, round_zero D mode _ hD]
    simp
  · have hc0 : c ≠ 0 := fun e => h0 (by rw [e, Int.zero_mul])
    have hn0 : num ≠ 0 := fun e => h0 (by rw [e, Int.mul_zero])
    have hb : belowB c num = decide (c * num < 0) := by
      unfold belowB
      rw [Bool.eq_iff_iff]
      by_cases h1 : c < 0
      · by_cases h2 : num < 0
        · have := Int.mul_pos_of_neg_of_neg h1 h2
          simp [h1, h2]; omega
        · have := Int.mul_neg_of_neg_of_pos h1 (show 0 < num by omega)
          simp [h1, h2, this]
      · by_cases h2 : num < 0
        · have := Int.mul_neg_of_pos_of_neg (show 0 < c by omega) h2
          simp [h1, h2, this]
        · have := Int.mul_pos (show 0 < c by omega) (show 0 < num by omega)
          simp [h1, h2]; omega
    rw [hb]
    unfold rnd
    by_cases hneg : c * num < 0
    · rw [decide_eq_true hneg, if_pos hneg, Int.natAbs_neg, Int.natAbs_natCast]; rfl
    · rw [decide_eq_false hneg, if_neg hneg, Int.natAbs_natCast]; rfl

theorem partVE_val (c num den mode : Int) (hf : fitsB c = true) (hd : 0 < den) (h0 : 0 ≤ mode) (h4 : mode ≤ 4) : partVE c num den mode = if (rnd mode den.toNat (c * num)).natAbs ≤ 1125899906842624 then (rnd mode den.toNat (c * num), 0) else (0, 9) := by
  unfold partVE
  rw [if_pos hf, if_neg (by omega), if_neg (by omega), if_neg (by omega), port_rnd c num _ mode _ (by omega)]
  by_cases h : (rnd mode den.toNat (c * num)).natAbs ≤ 1125899906842624
  · rw [if_pos h, if_pos h]
  · rw [if_neg h, if_neg h]
theorem partVE_ok (c num den mode : Int) (h : (partVE c num den mode).2 = 0) : fitsB c = true ∧ 0 < den ∧ 0 ≤ mode ∧ mode ≤ 4 ∧ (rnd mode den.toNat (c * num)).natAbs ≤ 1125899906842624 ∧ (partVE c num den mode).1 = rnd mode den.toNat (c * num) := by
  by_cases hf : fitsB c = true
  · by_cases h0 : den = 0
    · rw [show partVE c num den mode = (0, 22) by simp [partVE, hf, h0]] at h; cases h
    by_cases h1 : den < 0
    · rw [show partVE c num den mode = (0, 2) by simp [partVE, hf, h0, h1]] at h; cases h
    by_cases h2 : mode < 0 ∨ 4 < mode
    · rw [show partVE c num den mode = (0, 11) by simp only [partVE, hf, if_true, h0, h1, if_false]; rw [if_pos h2]] at h; cases h
    have hv := partVE_val c num den mode hf (by omega) (by omega) (by omega)
    rw [hv] at h ⊢
    by_cases h3 : (rnd mode den.toNat (c * num)).natAbs ≤ 1125899906842624
    · rw [if_pos h3]; exact ⟨hf, by omega, by omega, by omega, h3, rfl⟩
    · rw [if_neg h3] at h; cases h
  · simp only [Bool.not_eq_true] at hf
    rw [show partVE c num den mode = (0, 2) by simp [partVE, hf]] at h; cases h
theorem partVE_err (c num den mode : Int) (h : (partVE c num den mode).2 ≠ 0) : (partVE c num den mode).1 = 0 := by
  unfold partVE at h ⊢
  repeat' split
  all_goals first | rfl | skip
  rename_i h1 h2 h3 h4 _ p hp
  rw [if_pos h1, if_neg h2, if_neg h3, if_neg h4, hp] at h
  exact absurd rfl h

/-- Rounded as Half does: at most half a den away. -/
theorem rnd_half (D : Nat) (N : Int) (hD : 0 < D) : 2 * N - D ≤ 2 * (rnd 1 D N * D) ∧ 2 * (rnd 1 D N * D) ≤ 2 * N + D := by
  have key : ∀ (A : Nat) (b : Bool), 2 * (A : Int) - D ≤ 2 * ((roundQ A D 1 b : Int) * D) ∧ 2 * ((roundQ A D 1 b : Int) * D) ≤ 2 * A + D := by
    intro A b
    have h1 := Nat.div_add_mod A D
    have h2 := Nat.mod_lt A hD
    unfold roundQ
    have e : awayB 1 b (decide (A / D % 2 = 1)) (A % D) D = decide (D ≤ 2 * (A % D)) := rfl
    rw [e]
    generalize hq : A / D = q at h1
    generalize hr : A % D = r at h1 h2
    have hz : ((q : Int) * D) = ((D * q : Nat) : Int) := by rw [Int.natCast_mul, Int.mul_comm]
    by_cases hc : D ≤ 2 * r
    · rw [decide_eq_true hc, if_pos rfl]
      have e2 : ((q + 1 : Nat) : Int) * D = ((D * q : Nat) : Int) + D := by rw [Int.natCast_add, Int.add_mul, hz]; simp
      rw [e2]; omega
    · rw [decide_eq_false hc, if_neg (by simp)]
      rw [Nat.add_zero, hz]; omega
  unfold rnd
  by_cases h : N < 0
  · rw [if_pos h]
    have k := key N.natAbs true
    rw [Int.neg_mul]
    omega
  · rw [if_neg h]
    have k := key N.natAbs false
    omega
/-- Rounded as Floor does: not above, and less than one den below. -/
theorem rnd_floor (D : Nat) (N : Int) (hD : 0 < D) : rnd 4 D N * D ≤ N ∧ N < rnd 4 D N * D + D := by
  unfold rnd
  by_cases h : N < 0
  · rw [if_pos h]
    have h1 := Nat.div_add_mod N.natAbs D
    have h2 := Nat.mod_lt N.natAbs hD
    unfold roundQ
    have e : awayB 4 true (decide (N.natAbs / D % 2 = 1)) (N.natAbs % D) D = decide (0 < N.natAbs % D) := rfl
    rw [e]
    generalize hq : N.natAbs / D = q at h1
    generalize hr : N.natAbs % D = r at h1 h2
    have hz : ((q : Int) * D) = ((D * q : Nat) : Int) := by rw [Int.natCast_mul, Int.mul_comm]
    rw [Int.neg_mul]
    by_cases hc : 0 < r
    · rw [decide_eq_true hc, if_pos rfl]
      have e2 : ((q + 1 : Nat) : Int) * D = ((D * q : Nat) : Int) + D := by rw [Int.natCast_add, Int.add_mul, hz]; simp
      rw [e2]; omega
    · rw [decide_eq_false hc, if_neg (by simp)]
      rw [Nat.add_zero, hz]; omega
  · rw [if_neg h]
    have h1 := Nat.div_add_mod N.natAbs D
    have h2 := Nat.mod_lt N.natAbs hD
    unfold roundQ
    have e : awayB 4 false (decide (N.natAbs / D % 2 = 1)) (N.natAbs % D) D = false := rfl
    rw [e, if_neg (by simp), Nat.add_zero]
    have hz : (((N.natAbs / D : Nat) : Int) * D) = ((D * (N.natAbs / D) : Nat) : Int) := by rw [Int.natCast_mul, Int.mul_comm]
    rw [hz]; omega

theorem round_rises (D : Nat) (mode : Int) (b : Bool) (A B : Nat) (h : A ≤ B) : roundQ A D mode b ≤ roundQ B D mode b := by
  have hq := Nat.div_le_div_right (c := D) h
  have ha : ∀ X, roundQ X D mode b ≤ X / D + 1 := by intro X; unfold roundQ; split <;> omega
  by_cases he : A / D = B / D
  · have h1 := Nat.div_add_mod A D
    have h2 := Nat.div_add_mod B D
    have hr : A % D ≤ B % D := by rw [he] at h1; omega
    unfold roundQ
    rw [he]
    by_cases hc : awayB mode b (decide (B / D % 2 = 1)) (A % D) D = true
    · have hc2 : awayB mode b (decide (B / D % 2 = 1)) (B % D) D = true := by
        unfold awayB at hc ⊢
        generalize decide (B / D % 2 = 1) = odd at hc ⊢
        repeat' split at hc
        all_goals simp_all
        all_goals omega
      rw [if_pos hc, if_pos hc2]; exact Nat.le_refl _
    · rw [if_neg hc]; omega
  · have := ha A
    have := roundQ_ge B D mode b
    omega
theorem rnd_rises (mode : Int) (D : Nat) (M N : Int) (h : M ≤ N) : rnd mode D M ≤ rnd mode D N := by
  unfold rnd
  by_cases h1 : M < 0
  · rw [if_pos h1]
    by_cases h2 : N < 0
    · rw [if_pos h2]
      have := round_rises D mode true N.natAbs M.natAbs (by omega)
      omega
    · rw [if_neg h2]; omega
  · rw [if_neg h1, if_neg (by omega)]
    have := round_rises D mode false M.natAbs N.natAbs (by omega)
    omega

theorem round_scale (A D k : Nat) (hk : 0 < k) (mode : Int) (b : Bool) : roundQ (A * k) (D * k) mode b = roundQ A D mode b := by
  unfold roundQ
  rw [Nat.mul_div_mul_right _ _ hk, Nat.mul_mod_mul_right]
  have e : awayB mode b (decide (A / D % 2 = 1)) (A % D * k) (D * k) = awayB mode b (decide (A / D % 2 = 1)) (A % D) D := by
    unfold awayB
    have e0 : decide (0 < A % D * k) = decide (0 < A % D) := by
      rw [Bool.eq_iff_iff]; simp only [decide_eq_true_eq]
      constructor
      · intro h; exact Nat.pos_of_mul_pos_right h
      · intro h; exact Nat.mul_pos h hk
    have e1 : decide (D * k ≤ 2 * (A % D * k)) = decide (D ≤ 2 * (A % D)) := by
      rw [Bool.eq_iff_iff, ← Nat.mul_assoc]; simp only [decide_eq_true_eq]
      constructor
      · intro h; exact Nat.le_of_mul_le_mul_right h hk
      · intro h; exact Nat.mul_le_mul_right _ h
    have e2 : decide (D * k < 2 * (A % D * k)) = decide (D < 2 * (A % D)) := by
      rw [Bool.eq_iff_iff, ← Nat.mul_assoc]; simp only [decide_eq_true_eq]
      constructor
      · intro h; exact Nat.lt_of_mul_lt_mul_right h
      · intro h; exact Nat.mul_lt_mul_of_pos_right h hk
    rw [e0, e1, e2]
  rw [e]
theorem rnd_scale (mode : Int) (D k : Nat) (hk : 0 < k) (N : Int) : rnd mode (D * k) (N * k) = rnd mode D N := by
  unfold rnd
  have e : (N * k).natAbs = N.natAbs * k := by rw [Int.natAbs_mul, Int.natAbs_natCast]
  rw [e, round_scale _ _ _ hk, round_scale _ _ _ hk]
  by_cases h : N < 0
  · rw [if_pos h, if_pos (Int.mul_neg_of_neg_of_pos h (by omega))]
  · rw [if_neg h, if_neg (Int.not_lt.2 (Int.mul_nonneg (by omega) (by omega)))]
theorem rnd_exact (mode : Int) (D : Nat) (hD : 0 < D) (k : Int) : rnd mode D (k * D) = k := by
  unfold rnd
  have e : (k * D).natAbs = k.natAbs * D := by rw [Int.natAbs_mul, Int.natAbs_natCast]
  rw [e, round_exact _ _ _ _ hD, round_exact _ _ _ _ hD]
  by_cases h : k < 0
  · rw [if_pos (Int.mul_neg_of_neg_of_pos h (by omega))]; omega
  · rw [if_neg (Int.not_lt.2 (Int.mul_nonneg (by omega) (by omega)))]; omega

end Go.Proofs.Ytaeldoipflcknaa.Ra
