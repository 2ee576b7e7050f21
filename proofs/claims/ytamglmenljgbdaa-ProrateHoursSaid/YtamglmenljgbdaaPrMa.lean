/-
  What is proved: plain facts on the nearest whole part of what isn't below 0: by a greater whole it isn't greater; with the other sign it is the same below 0; and what an hour is. Conditions: as there.
-/
import Derived.Test.YtamglmenljgbdaaPrB
namespace Go.Proofs.Ytamglmenljgbdaa
open Go Go.RowKit Go.Proofs

theorem round_eq (A D : Nat) (b : Bool) (hD : 0 < D) : Ra.roundQ A D 1 b = (2 * A + D) / (2 * D) := by
  unfold Ra.roundQ
  have e : ∀ o r, Ra.awayB 1 b o r D = decide (D ≤ 2 * r) := fun o r => rfl
  rw [e]
  have h1 := Nat.div_add_mod A D
  have h2 := Nat.mod_lt A hD
  generalize A / D = q at h1 ⊢
  generalize A % D = r at h1 h2 ⊢
  rw [← h1]
  have e2 : 2 * (D * q + r) + D = 2 * D * q + (2 * r + D) := by rw [Nat.mul_add, Nat.mul_assoc]; omega
  rw [e2, Nat.mul_add_div (by omega)]
  by_cases h : D ≤ 2 * r
  · rw [decide_eq_true h, if_pos rfl, show (2 * r + D) / (2 * D) = 1 from Nat.div_eq_of_lt_le (by omega) (by omega)]
  · rw [decide_eq_false h, if_neg (by decide), Nat.div_eq_of_lt (by omega)]
theorem rnd_pos (D : Nat) (N : Int) (hD : 0 < D) (h : 0 ≤ N) : Ra.rnd 1 D N = (((2 * N.natAbs + D) / (2 * D) : Nat) : Int) := by
  unfold Ra.rnd
  rw [if_neg (by omega), round_eq _ _ _ hD]
theorem rnd_neg (D : Nat) (N : Int) (hD : 0 < D) : Ra.rnd 1 D (-N) = -Ra.rnd 1 D N := by
  have hz : Ra.roundQ 0 D 1 false = 0 := Ra.round_zero D 1 false hD
  unfold Ra.rnd
  rw [Int.natAbs_neg, round_eq _ _ true hD, round_eq _ _ false hD]
  rw [round_eq _ _ false hD] at hz
  by_cases h : N = 0
  · subst h
    rw [if_neg (by omega), if_neg (by omega)]
    rw [Int.natAbs_zero, hz]; rfl
  · split <;> split <;> omega
theorem rnd_den {D E : Nat} {N : Int} (hD : 0 < D) (h : D ≤ E) (h0 : 0 ≤ N) : Ra.rnd 1 E N ≤ Ra.rnd 1 D N := by
  rw [rnd_pos E N (by omega) h0, rnd_pos D N hD h0]
  generalize N.natAbs = A
  have h1 : (2 * A + E) / (2 * E) ≤ (2 * A + D) / (2 * D) := by
    rw [Nat.le_div_iff_mul_le (by omega)]
    have h2 := Nat.div_mul_le_self (2 * A + E) (2 * E)
    generalize (2 * A + E) / (2 * E) = r at h2 ⊢
    by_cases hr : r = 0
    · subst hr; omega
    · obtain ⟨F, rfl⟩ : ∃ F, E = D + F := ⟨E - D, by omega⟩
      have h3 : r * (2 * (D + F)) = r * (2 * D) + r * F * 2 := by rw [Nat.mul_add, Nat.mul_add, Nat.mul_comm 2 F, Nat.mul_assoc]
      have h4 : 1 * F ≤ r * F := Nat.mul_le_mul_right _ (by omega)
      omega
  exact Int.ofNat_le.2 h1
theorem rnd_bd {D : Nat} {N : Int} (hD : 0 < D) (h0 : 0 ≤ N) : 0 ≤ Ra.rnd 1 D N ∧ Ra.rnd 1 D N ≤ N + 1 := by
  rw [rnd_pos D N hD h0]
  have h1 : (2 * N.natAbs + D) / (2 * D) ≤ N.natAbs + 1 := by
    apply Nat.le_of_lt_succ
    rw [Nat.div_lt_iff_lt_mul (by omega)]
    have h3 : (N.natAbs + 2) * (2 * D) = N.natAbs * (2 * D) + 2 * (2 * D) := by rw [Nat.add_mul]
    have h4 : N.natAbs * (2 * 1) ≤ N.natAbs * (2 * D) := Nat.mul_le_mul_left _ (by omega)
    show 2 * N.natAbs + D < (N.natAbs + 2) * (2 * D)
    rw [h3]
    omega
  generalize (2 * N.natAbs + D) / (2 * D) = r at h1 ⊢
  omega
theorem fits_iff {c : Int} : Ra.fitsB c = true ↔ -1125899906842624 ≤ c ∧ c ≤ 1125899906842624 := Ra.fitsB_iff
/-- What an hour is, of an amount that isn't far from 0. -/
theorem hour_is {y m : Int} (h1 : -1099511627776 ≤ y) (h2 : y ≤ 1099511627776) (m1 : 0 < m) (m2 : m ≤ 10080) : hourVE y m = (Ra.rnd 1 (52 * m).toNat (y * 60), 0) := by
  have hf : Ra.fitsB y = true := fits_iff.2 ⟨by omega, by omega⟩
  unfold hourVE
  rw [if_pos hf, if_neg (by omega), if_neg (by omega), Ra.partVE_val _ _ _ _ hf (by omega) (by omega) (by omega), if_pos]
  by_cases h : 0 ≤ y
  · have := rnd_bd (D := (52 * m).toNat) (N := y * 60) (by omega) (by omega)
    omega
  · have h3 := rnd_bd (D := (52 * m).toNat) (N := -(y * 60)) (by omega) (by omega)
    rw [rnd_neg _ _ (by omega)] at h3
    omega
theorem hours_facts {y m k : Int} (h1 : 0 ≤ y) (h2 : y ≤ 1099511627776) (m1 : 0 < m) (m2 : m ≤ k) (k2 : k ≤ 10080) :
    hourVE y m = (Ra.rnd 1 (52 * m).toNat (y * 60), 0) ∧ hourVE y k = (Ra.rnd 1 (52 * k).toNat (y * 60), 0) ∧ hourVE (-y) m = (-Ra.rnd 1 (52 * m).toNat (y * 60), 0) ∧ Ra.rnd 1 (52 * k).toNat (y * 60) ≤ Ra.rnd 1 (52 * m).toNat (y * 60) ∧
    0 ≤ Ra.rnd 1 (52 * m).toNat (y * 60) ∧ Ra.rnd 1 (52 * m).toNat (y * 60) ≤ 65970697666561 ∧ 0 ≤ Ra.rnd 1 (52 * k).toNat (y * 60) ∧
    2 * (Ra.rnd 1 (52 * m).toNat (y * 60) * 52 * m) ≤ 2 * (60 * y) + 52 * m ∧ 2 * (60 * y) - 52 * m ≤ 2 * (Ra.rnd 1 (52 * m).toNat (y * 60) * 52 * m) := by
  have b1 := rnd_bd (D := (52 * m).toNat) (N := y * 60) (by omega) (by omega)
  have b2 := rnd_bd (D := (52 * k).toNat) (N := y * 60) (by omega) (by omega)
  have hh := Ra.rnd_half (52 * m).toNat (y * 60) (by omega)
  rw [Int.toNat_of_nonneg (by omega)] at hh
  refine ⟨hour_is (by omega) h2 m1 (by omega), hour_is (by omega) h2 (by omega) k2, ?_, rnd_den (by omega) (by omega) (by omega), b1.1, by omega, b2.1, ?_, ?_⟩
  · rw [hour_is (by omega) (by omega) m1 (by omega), Int.neg_mul, rnd_neg _ _ (by omega)]
  · rw [Int.mul_assoc]; omega
  · rw [Int.mul_assoc]; omega

end Go.Proofs.Ytamglmenljgbdaa
