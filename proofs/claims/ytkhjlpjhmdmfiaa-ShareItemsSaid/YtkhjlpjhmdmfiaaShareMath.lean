/-
  What is proved: plain facts on sums of numbers, on the cents that are left over, and on whom they go to. Conditions: none.
-/
import Derived.Test.YtkhjlpjhmdmfiaaSortMath
namespace Go.Proofs.Ytkhjlpjhmdmfiaa

def sumN (r : Nat → Nat) : Nat → Nat
  | 0 => 0
  | n + 1 => sumN r n + r n
theorem sumN_congr {r s : Nat → Nat} : ∀ n, (∀ j, j < n → r j = s j) → sumN r n = sumN s n
  | 0, _ => rfl
  | n + 1, h => by rw [sumN, sumN, sumN_congr n (fun j hj => h j (by omega)), h n (by omega)]
theorem sumN_le {r : Nat → Nat} {n j : Nat} (h : j < n) : r j ≤ sumN r n := by
  induction n with
  | zero => omega
  | succ n ih =>
    rw [sumN]
    by_cases e : j = n
    · rw [e]; omega
    · have := ih (by omega); omega
theorem sumN_mono {r : Nat → Nat} {n m : Nat} (h : n ≤ m) : sumN r n ≤ sumN r m := by
  induction m with
  | zero => rw [show n = 0 by omega]; omega
  | succ m ih =>
    by_cases e : n = m + 1
    · rw [e]; omega
    · rw [sumN]; have := ih (by omega); omega
theorem sumN_bound {r : Nat → Nat} {b : Nat} : ∀ n, (∀ j, j < n → r j ≤ b) → sumN r n ≤ n * b
  | 0, _ => by simp [sumN]
  | n + 1, h => by
    rw [sumN, Nat.add_mul, Nat.one_mul]
    have := sumN_bound n (fun j hj => h j (by omega)); have := h n (by omega); omega
/-- The whole cents and the rests. -/
theorem sum_parts (a S : Nat) (wt : Nat → Nat) : ∀ n, S * sumN (fun j => a * wt j / S) n + sumN (fun j => a * wt j % S) n = a * sumN wt n
  | 0 => by simp [sumN]
  | n + 1 => by
    have ih := sum_parts a S wt n
    have h := Nat.div_add_mod (a * wt n) S
    simp only [sumN]
    rw [Nat.mul_add, Nat.mul_add]
    generalize S * (a * wt n / S) = X at h ⊢
    generalize a * wt n % S = Y at h ⊢
    omega
theorem sum_rests {S : Nat} {r : Nat → Nat} : ∀ n, 0 < n → (∀ j, j < n → r j < S) → sumN r n < n * S
  | 0, h, _ => by omega
  | 1, _, h => by simpa [sumN] using h 0 (by omega)
  | n + 2, _, h => by
    have := sum_rests (n + 1) (by omega) (fun j hj => h j (by omega))
    have := h (n + 1) (by omega)
    rw [sumN, Nat.add_mul (n + 1) 1, Nat.one_mul]
    omega
/-- Not more whole cents than there are, and fewer left over than places. -/
theorem left_lt {a S n : Nat} {wt : Nat → Nat} (hS : S = sumN wt n) (h0 : 0 < S) : sumN (fun j => a * wt j / S) n ≤ a ∧ a - sumN (fun j => a * wt j / S) n < n ∧ S * (a - sumN (fun j => a * wt j / S) n) = sumN (fun j => a * wt j % S) n := by
  have h1 := sum_parts a S wt n
  rw [← hS] at h1
  have hn : 0 < n := by
    rcases Nat.eq_zero_or_pos n with e | e
    · rw [e] at hS; simp [sumN] at hS; omega
    · exact e
  have h2 := sum_rests (r := fun j => a * wt j % S) n hn (fun j _ => Nat.mod_lt _ h0)
  generalize sumN (fun j => a * wt j / S) n = Q at h1 ⊢
  generalize sumN (fun j => a * wt j % S) n = R at h1 h2 ⊢
  have h3 : Q ≤ a := by
    apply Nat.le_of_mul_le_mul_left _ h0
    rw [Nat.mul_comm S a]; omega
  have h4 : S * (a - Q) = R := by rw [Nat.mul_sub, Nat.mul_comm S a]; omega
  refine ⟨h3, ?_, h4⟩
  apply Nat.lt_of_mul_lt_mul_left (a := S)
  rw [h4, Nat.mul_comm S n]
  exact h2
/-- One cent more for each of the first m places. -/
def bump (f q : Nat → Nat) : Nat → Nat → Nat
  | 0 => q
  | m + 1 => fun j => if j = f m then bump f q m j + 1 else bump f q m j
theorem bump_le (f q : Nat → Nat) : ∀ m j, bump f q m j ≤ q j + m
  | 0, j => by simp [bump]
  | m + 1, j => by have := bump_le f q m j; simp only [bump]; split <;> omega
theorem sum_bump {f q : Nat → Nat} {n m : Nat} (h : f m < n) : sumN (bump f q (m + 1)) n = sumN (bump f q m) n + 1 := by
  have key : ∀ k, sumN (bump f q (m + 1)) k = sumN (bump f q m) k + (if f m < k then 1 else 0) := by
    intro k
    induction k with
    | zero => simp [sumN]
    | succ k ih =>
      rw [sumN, sumN, ih]
      simp only [bump]
      by_cases e : k = f m
      · rw [if_pos e, if_neg (by omega), if_pos (by omega)]; omega
      · rw [if_neg e]
        by_cases e2 : f m < k
        · rw [if_pos e2, if_pos (by omega)]; omega
        · rw [if_neg e2, if_neg (by omega)]; omega
  rw [key, if_pos h]
theorem sum_bumps {f q : Nat → Nat} {n : Nat} : ∀ m, (∀ i, i < m → f i < n) → sumN (bump f q m) n = sumN q n + m
  | 0, _ => rfl
  | m + 1, h => by rw [sum_bump (h m (by omega)), sum_bumps m (fun i hi => h i (by omega))]; omega

end Go.Proofs.Ytkhjlpjhmdmfiaa
