/-
  What is proved: plain facts on the periods of a year: their parts add up to the amount, and two of them differ by at most a cent. Conditions: as there.
-/
import Derived.Test.YtamglmenljgbdaaPrE
namespace Go.Proofs.Ytamglmenljgbdaa
open Go Go.RowKit Go.Proofs

theorem div_step (X Y D : Nat) (hD : 0 < D) : X / D + Y / D ≤ (X + Y) / D ∧ (X + Y) / D ≤ X / D + Y / D + 1 := by
  have h1 := Nat.div_add_mod X D
  have h2 := Nat.mod_lt X hD
  have h3 := Nat.div_add_mod Y D
  have h4 := Nat.mod_lt Y hD
  generalize X / D = a at *
  generalize X % D = r at *
  generalize Y / D = c at *
  generalize Y % D = s at *
  have e : X + Y = D * (a + c) + (r + s) := by rw [← h1, ← h3, Nat.mul_add]; omega
  rw [e, Nat.mul_add_div hD]
  have : (r + s) / D ≤ 1 := by
    apply Nat.le_of_lt_succ
    rw [Nat.div_lt_iff_lt_mul hD]; omega
  generalize (r + s) / D = t at this ⊢
  omega
theorem half_step (A i n : Nat) (hn : 0 < n) : Sh.halfN A i n + A / n ≤ Sh.halfN A (i + 1) n ∧ Sh.halfN A (i + 1) n ≤ Sh.halfN A i n + A / n + 1 := by
  rw [half_eq _ _ _ hn, half_eq _ _ _ hn]
  have e : 2 * (A * (i + 1)) + n = (2 * (A * i) + n) + 2 * A := by rw [Nat.mul_add]; omega
  rw [e]
  have h := div_step (2 * (A * i) + n) (2 * A) (2 * n) (by omega)
  rwa [Nat.mul_div_mul_left _ _ (by omega : 0 < 2)] at h
/-- What a period's part isn't less than. -/
def lowB (y n : Int) : Int := if y < 0 then -((y.natAbs / n.toNat : Nat) : Int) - 1 else ((y.natAbs / n.toNat : Nat) : Int)
theorem per_is {y i n : Int} (hf : Sh.fitB y = true) (h1 : 1 ≤ i) (h2 : i ≤ n) (h3 : n ≤ 1125899906842624) : perE y i n = 0 ∧ perV y i n = Sh.upV y i n - Sh.upV y (i - 1) n := by
  unfold perE perV
  rw [if_neg (by omega), if_neg (by omega)]
  exact bet_is hf (by omega) h3 (by omega) (by omega) h2
theorem per_low {y i n : Int} (hf : Sh.fitB y = true) (h1 : 1 ≤ i) (h2 : i ≤ n) (h3 : n ≤ 1125899906842624) : lowB y n ≤ perV y i n ∧ perV y i n ≤ lowB y n + 1 := by
  rw [(per_is hf h1 h2 h3).2]
  unfold lowB Sh.upV
  have h := half_step y.natAbs (i - 1).toNat n.toNat (by omega)
  rw [show (i - 1).toNat + 1 = i.toNat by omega] at h
  generalize Sh.halfN y.natAbs (i - 1).toNat n.toNat = a at *
  generalize Sh.halfN y.natAbs i.toNat n.toNat = b at *
  generalize y.natAbs / n.toNat = q at *
  rcases sg_cases y with ⟨h, e⟩ | ⟨h, e⟩
  · rw [e, if_pos h]; omega
  · rw [e, if_neg (by omega)]; omega
theorem per_err {y i n : Int} (hf : Sh.fitB y = false) (_ : 1 ≤ i) : perE y i n = 9 := by
  unfold perE Sh.betE
  have hw : Sh.wholeE y n = 9 := by unfold Sh.wholeE; rw [if_neg (by rw [hf]; decide)]
  rw [if_neg (by rw [hw]; decide), hw]
theorem up_bd {y i n : Int} (hf : Sh.fitB y = true) (h1 : 0 ≤ i) (h2 : i ≤ n) (hn : 0 < n) : -1125899906842624 ≤ Sh.upV y i n ∧ Sh.upV y i n ≤ 1125899906842624 := by
  obtain ⟨s1, s2⟩ := up_step y 0 i n (by omega) h1 h2 hn
  rw [up_no y n hn] at s1 s2
  have := fit_iff.1 hf
  by_cases h : y < 0
  · have := s2 h; omega
  · have := s1 (by omega); omega

end Go.Proofs.Ytamglmenljgbdaa
