/-
  What is proved: the sum of what has come, of 128 bits, and its rounding. Conditions: as there.
-/
import Derived.Test.YtbflgckmhhmklaaTxC
namespace Go.Proofs.Ytbflgckmhhmklaa
open Go Go.RowKit Go.Proofs
set_option linter.unusedVariables false

/-- The sum of what has come, in millionths. -/
def sumL (pre : List Pr) : Nat := pre.foldl (fun s p => s + p.1.1.toNat * p.1.2.toNat) 0
theorem sumL_snoc (pre : List Pr) (y : Pr) : sumL (pre ++ [y]) = sumL pre + y.1.1.toNat * y.1.2.toNat := by simp [sumL]
theorem pr_bd (y : Pr) : y.1.1.toNat * y.1.2.toNat ≤ 1000000 * 2305843009213693952 := Nat.mul_le_mul (by have := y.2; omega) (by have := y.2; omega)
theorem sumL_bd (pre : List Pr) : sumL pre ≤ pre.length * (1000000 * 2305843009213693952) := by
  unfold sumL
  have h : ∀ (l : List Pr) (s : Nat), l.foldl (fun s p => s + p.1.1.toNat * p.1.2.toNat) s ≤ s + l.length * (1000000 * 2305843009213693952) := by
    intro l
    induction l with
    | nil => intro s; simp
    | cons y l ih =>
      intro s
      have h1 := ih (s + y.1.1.toNat * y.1.2.toNat)
      have h2 := pr_bd y
      simp only [List.foldl_cons, List.length_cons, Nat.add_mul]
      omega
  have := h pre 0
  omega
theorem sum_upto {f : Nat → Bd} {n : Nat} (hr : Rises f n) {x idx : Int} (i0 : 1 ≤ idx) (i1 : idx ≤ 400) (x1 : x ≤ 2305843009213693952) : ∀ k, k ≤ n → (∀ j, j < k → (f j).1 * idx < x) → (sumL (upto (pairV f n x idx) k) : Int) = sumV f n x idx k
  | 0, _, _ => rfl
  | k + 1, hn, hj => by
    have ih := sum_upto hr i0 i1 x1 k (by omega) (fun j h => hj j (by omega))
    have hrt := (hr.2.1 k hn).2
    have hgt := to_gt hr (x := x) i0 hn (hj k (by omega))
    have hle := to_le f n x idx k
    have hg := idx_bd (hr.ge k hn) (hr.2.1 k hn).1 i0 i1
    have hh : (0 ≤ (f k).2 ∧ (f k).2 ≤ 1000000) ∧ 0 ≤ heldV f n x idx k ∧ heldV f n x idx k ≤ 2305843009213693952 := by unfold heldV; omega
    rw [upto_succ, sumL_snoc, pairV_is hh]
    show ((sumL (upto (pairV f n x idx) k) + (f k).2.toNat * (heldV f n x idx k).toNat : Nat) : Int) = sumV f n x idx k + (f k).2 * heldV f n x idx k
    rw [Int.natCast_add, ih, Int.natCast_mul, Int.toNat_of_nonneg hh.1.1, Int.toNat_of_nonneg hh.2.1]
theorem sum_takes {f : Nat → Bd} {n : Nat} (hr : Rises f n) {x idx : Int} (i0 : 1 ≤ idx) (i1 : idx ≤ 400) (x1 : x ≤ 2305843009213693952) : (sumL (upto (pairV f n x idx) (cnt f n x idx)) : Int) = takesV f n x idx := by
  obtain ⟨h1, h2, -⟩ := cnt_spec f n x idx
  exact sum_upto hr i0 i1 x1 _ h1 h2

/-- Two words, added. -/
theorem hi_add (S P : Nat) : S / 18446744073709551616 + P / 18446744073709551616 + (S % 18446744073709551616 + P % 18446744073709551616) / 18446744073709551616 = (S + P) / 18446744073709551616 := by omega
theorem lo_add (S P : Nat) : (S % 18446744073709551616 + P % 18446744073709551616) % 18446744073709551616 = (S + P) % 18446744073709551616 := by omega
theorem two_words (S : Nat) : S / 18446744073709551616 * 18446744073709551616 + S % 18446744073709551616 = S := by omega
/-- The rounded quotient, as a whole number. -/
theorem round_nat (S : Nat) (of : Nat) (h : 1 ≤ of) : roundT (S : Int) (of : Int) = (((S + of * 500000) / (of * 1000000) : Nat) : Int) := by
  unfold roundT
  rw [Int.natCast_ediv, Int.natCast_add, Int.natCast_mul, Int.natCast_mul]
  rfl

end Go.Proofs.Ytbflgckmhhmklaa
