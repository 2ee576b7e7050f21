/-
  What is proved: plain facts: what the document's step insures is what the program's does. Conditions: as there.
-/
import Derived.Test.YtibbgihcmcnamaaSoI
namespace Go.Proofs.Ytibbgihcmcnamaa
open Go Go.RowKit Go.Lib Go.Proofs
open Ra (fitsB fitsB_iff)
set_option linter.unusedVariables false

/-- All bases, or the ceiling. -/
def upV (t z : Int) : Int := if 0 < z ∧ z < t then z else t
theorem half_zero (r : Int) : halfV 0 r = 0 := by
  unfold halfV Ra.ofVE
  split
  · have e := Ra.partVE_val 0 r 1000000 1 (by decide) (by omega) (by omega) (by omega)
    rw [Int.zero_mul, show (1000000 : Int).toNat = 1000000 from rfl, show Ra.rnd 1 1000000 0 = 0 from by decide] at e
    rw [e]
    rfl
  · rfl
theorem rightS_no {a b c d : Int} (h : 1125899906842624 < a) : rightS a b c d = false := by
  cases hr : rightS a b c d with
  | false => rfl
  | true => have := rightS_iff.1 hr; omega
/-- Ahead of the most: what is insured more. -/
theorem more_up {a b z base : Int} (hb0 : 0 ≤ b) (hb1 : b ≤ 1125899906842624) (hz0 : 0 ≤ z) (hz1 : z ≤ 1125899906842624) (ht : a + base ≤ 1125899906842624) (hu : b < upV (a + base) z) : moreV a b z base = upV (a + base) z - b := by
  unfold moreV roomV ceilV
  unfold upV at hu ⊢
  split <;> split <;> omega
theorem more_no {a b z base : Int} (hb0 : 0 ≤ b) (hb1 : b ≤ 1125899906842624) (hz0 : 0 ≤ z) (hz1 : z ≤ 1125899906842624) (hu : ¬ b < upV (a + base) z) : moreV a b z base = 0 := by
  unfold moreV roomV ceilV
  unfold upV at hu
  split <;> split at hu <;> omega
theorem up_le {t z : Int} (hz1 : z ≤ 1125899906842624) (h : 1125899906842624 < upV t z) : 1125899906842624 < t := by
  unfold upV at h; split at h <;> omega
theorem up_ge {t z : Int} (h : t ≤ 1125899906842624) (hz : z ≤ 1125899906842624) : upV t z ≤ 1125899906842624 := by
  unfold upV; split <;> omega
/-- The three ways of a step whose scheme is right, and whose base fits. -/
theorem step_far {a b c d : Int} {nm : Bool} {x y z base : Int} (hc : chkE (rightS a b c d) nm x y z = 0) (hf : fitsB base = true) (hu : 1125899906842624 < upV (a + base) z - b) : stepE a b c d nm x y z base = 9 := by
  obtain ⟨hr, -, -, -, hz⟩ := chk_ok hc
  have h1 := rightS_iff.1 hr
  have h2 := fit0_iff.1 hz
  have := up_le (t := a + base) h2.2 (by omega)
  unfold stepE
  rw [if_pos hc, if_pos hf, if_neg (by rw [rightS_no this]; decide)]
theorem step_up {a b c d : Int} {nm : Bool} {x y z base : Int} (hc : chkE (rightS a b c d) nm x y z = 0) (hf : fitsB base = true) (hu : b < upV (a + base) z) :
    stepE a b c d nm x y z base = (if rightS (a + base) (upV (a + base) z) (c + halfV (upV (a + base) z - b) x) (d + halfV (upV (a + base) z - b) y) = true then 0 else 9) ∧
    stepV a b c d nm x y z base = (if rightS (a + base) (upV (a + base) z) (c + halfV (upV (a + base) z - b) x) (d + halfV (upV (a + base) z - b) y) = true then (a + base, upV (a + base) z, c + halfV (upV (a + base) z - b) x, d + halfV (upV (a + base) z - b) y) else (0, 0, 0, 0)) := by
  obtain ⟨hr, -, -, -, hz⟩ := chk_ok hc
  have h1 := rightS_iff.1 hr
  have h2 := fit0_iff.1 hz
  have hE : stepE a b c d nm x y z base = (if rightS (a + base) (b + moreV a b z base) (c + halfV (moreV a b z base) x) (d + halfV (moreV a b z base) y) = true then 0 else 9) := by
    unfold stepE
    rw [if_pos hc, if_pos hf]
  by_cases ht : a + base ≤ 1125899906842624
  · have hm := more_up (a := a) (base := base) h1.2.1.1 h1.2.1.2 h2.1 h2.2 ht hu
    rw [hm, show b + (upV (a + base) z - b) = upV (a + base) z by omega] at hE
    refine ⟨hE, ?_⟩
    unfold stepV
    rw [hE, hm, show b + (upV (a + base) z - b) = upV (a + base) z by omega]
    by_cases hq : rightS (a + base) (upV (a + base) z) (c + halfV (upV (a + base) z - b) x) (d + halfV (upV (a + base) z - b) y) = true
    · rw [if_pos hq, if_pos rfl, if_pos hq]
    · rw [if_neg hq, if_neg (by decide), if_neg hq]
  · have ht' : 1125899906842624 < a + base := by omega
    rw [rightS_no ht', if_neg (by decide)] at hE
    rw [rightS_no ht', if_neg (by decide), if_neg (by decide)]
    refine ⟨hE, ?_⟩
    unfold stepV
    rw [hE, if_neg (by decide)]
theorem step_no {a b c d : Int} {nm : Bool} {x y z base : Int} (hc : chkE (rightS a b c d) nm x y z = 0) (hf : fitsB base = true) (hu : ¬ b < upV (a + base) z) :
    stepE a b c d nm x y z base = (if rightS (a + base) b c d = true then 0 else 9) ∧ stepV a b c d nm x y z base = (if rightS (a + base) b c d = true then (a + base, b, c, d) else (0, 0, 0, 0)) := by
  obtain ⟨hr, -, -, -, hz⟩ := chk_ok hc
  have h1 := rightS_iff.1 hr
  have h2 := fit0_iff.1 hz
  have hm := more_no (a := a) (base := base) h1.2.1.1 h1.2.1.2 h2.1 h2.2 hu
  have hE : stepE a b c d nm x y z base = (if rightS (a + base) b c d = true then 0 else 9) := by
    unfold stepE
    rw [if_pos hc, if_pos hf, hm, half_zero, half_zero, Int.add_zero, Int.add_zero, Int.add_zero]
  refine ⟨hE, ?_⟩
  unfold stepV
  rw [hE, hm, half_zero, half_zero, Int.add_zero, Int.add_zero, Int.add_zero]
  by_cases hq : rightS (a + base) b c d = true
  · rw [if_pos hq, if_pos rfl, if_pos hq]
  · rw [if_neg hq, if_neg (by decide), if_neg hq]

end Go.Proofs.Ytibbgihcmcnamaa
