/-
  What is proved: plain facts on steps: what a step that is right is, and a base in two parts. Conditions: as there.
-/
import Derived.Test.YtibbgihcmcnamaaSoL
namespace Go.Proofs.Ytibbgihcmcnamaa
open Go Go.RowKit Go.Lib Go.Proofs
open Ra (fitsB fitsB_iff)
set_option linter.unusedVariables false

/-- What a step that is right is. -/
theorem step_is {a b c d : Int} {nm : Bool} {x y z base : Int} (h : stepE a b c d nm x y z base = 0) :
    stepV a b c d nm x y z base = (a + base, b + moreV a b z base, c + halfV (moreV a b z base) x, d + halfV (moreV a b z base) y) ∧ chkE (rightS a b c d) nm x y z = 0 ∧ fitsB base = true ∧ rightS (a + base) (b + moreV a b z base) (c + halfV (moreV a b z base) x) (d + halfV (moreV a b z base) y) = true := by
  have hV : stepV a b c d nm x y z base = (a + base, b + moreV a b z base, c + halfV (moreV a b z base) x, d + halfV (moreV a b z base) y) := by
    unfold stepV; rw [if_pos h]
  refine ⟨hV, ?_⟩
  unfold stepE at h
  by_cases hc : chkE (rightS a b c d) nm x y z = 0
  · rw [if_pos hc] at h
    by_cases hf : fitsB base = true
    · rw [if_pos hf] at h
      by_cases hr : rightS (a + base) (b + moreV a b z base) (c + halfV (moreV a b z base) x) (d + halfV (moreV a b z base) y) = true
      · exact ⟨hc, hf, hr⟩
      · rw [if_neg hr] at h; exact absurd h (by decide)
    · rw [if_neg hf] at h; exact absurd h (by decide)
  · rw [if_neg hc] at h; exact absurd h hc
theorem more_bd (a b z base : Int) (h0 : 0 ≤ b) (hz : z ≤ 1125899906842624) (hz0 : 0 ≤ z) : 0 ≤ moreV a b z base ∧ moreV a b z base ≤ 1125899906842624 := by
  unfold moreV roomV ceilV; split <;> omega
theorem more_parts (a b z p q : Int) (hp : 0 ≤ p) (hq : 0 ≤ q) : moreV a b z p + moreV (a + p) (b + moreV a b z p) z q = moreV a b z (p + q) := by
  unfold moreV roomV
  generalize ceilV z = k
  omega
theorem half_parts (m n r : Int) (h0 : 0 ≤ m) (h1 : 0 ≤ n) (h2 : m + n ≤ 1125899906842624) (hr : partB r = true) : halfV m r + halfV n r - halfV (m + n) r ≤ 1 ∧ -1 ≤ halfV m r + halfV n r - halfV (m + n) r := by
  obtain ⟨-, e1, -, -⟩ := half_bd m r h0 (by omega) hr
  obtain ⟨-, e2, -, -⟩ := half_bd n r h1 (by omega) hr
  obtain ⟨-, e3, -, -⟩ := half_bd (m + n) r (by omega) h2 hr
  rw [e1, e2, e3]
  have k1 := Ra.rnd_half 1000000 (m * r) (by omega)
  have k2 := Ra.rnd_half 1000000 (n * r) (by omega)
  have k3 := Ra.rnd_half 1000000 ((m + n) * r) (by omega)
  have e : (m + n) * r = m * r + n * r := Int.add_mul m n r
  rw [e] at k3 ⊢
  generalize m * r = M at *
  generalize n * r = N at *
  generalize Ra.rnd 1 1000000 M = u at *
  generalize Ra.rnd 1 1000000 N = v at *
  generalize Ra.rnd 1 1000000 (M + N) = w at *
  have : ((1000000 : Nat) : Int) = 1000000 := rfl
  rw [this] at k1 k2 k3
  omega
/-- A base in two parts. -/
theorem parts_facts {a b c d : Int} {nm : Bool} {x y z p q : Int} (hp : 0 ≤ p) (hq : 0 ≤ q) (h1 : stepE a b c d nm x y z p = 0)
    (h2 : stepE (stepV a b c d nm x y z p).1 (stepV a b c d nm x y z p).2.1 (stepV a b c d nm x y z p).2.2.1 (stepV a b c d nm x y z p).2.2.2 nm x y z q = 0) (h3 : stepE a b c d nm x y z (p + q) = 0) :
    let u := stepV (stepV a b c d nm x y z p).1 (stepV a b c d nm x y z p).2.1 (stepV a b c d nm x y z p).2.2.1 (stepV a b c d nm x y z p).2.2.2 nm x y z q
    let v := stepV a b c d nm x y z (p + q)
    u.1 = v.1 ∧ u.2.1 = v.2.1 ∧ (u.2.2.1 - v.2.2.1 ≤ 1 ∧ -1 ≤ u.2.2.1 - v.2.2.1) ∧ u.2.2.2 - v.2.2.2 ≤ 1 ∧ -1 ≤ u.2.2.2 - v.2.2.2 := by
  obtain ⟨e1, k1, f1, r1⟩ := step_is h1
  rw [e1] at h2 ⊢
  dsimp only at h2 ⊢
  obtain ⟨e2, k2, f2, r2⟩ := step_is h2
  obtain ⟨e3, k3, f3, r3⟩ := step_is h3
  rw [e2, e3]
  dsimp only
  obtain ⟨g0, -, hx, hy, hz⟩ := chk_ok k1
  have i0 := rightS_iff.1 g0
  have i1 := rightS_iff.1 r1
  have i2 := rightS_iff.1 r3
  have iz := fit0_iff.1 hz
  obtain ⟨m0, m1⟩ := more_bd a b z p i0.2.1.1 iz.2 iz.1
  obtain ⟨n0, n1⟩ := more_bd (a + p) (b + moreV a b z p) z q (by omega) iz.2 iz.1
  have hs := more_parts a b z p q hp hq
  have hb := more_bd a b z (p + q) i0.2.1.1 iz.2 iz.1
  rw [← hs] at hb ⊢
  have w1 := half_parts (moreV a b z p) (moreV (a + p) (b + moreV a b z p) z q) x m0 n0 hb.2 hx
  have w2 := half_parts (moreV a b z p) (moreV (a + p) (b + moreV a b z p) z q) y m0 n0 hb.2 hy
  refine ⟨by omega, by omega, ⟨by omega, by omega⟩, by omega, by omega⟩
theorem stepV_bd (a b c d : Int) (nm : Bool) (x y z base : Int) : ((-1125899906842624 ≤ (stepV a b c d nm x y z base).1 ∧ (stepV a b c d nm x y z base).1 ≤ 1125899906842624) ∧ (0 ≤ (stepV a b c d nm x y z base).2.1 ∧ (stepV a b c d nm x y z base).2.1 ≤ 1125899906842624) ∧ (0 ≤ (stepV a b c d nm x y z base).2.2.1 ∧ (stepV a b c d nm x y z base).2.2.1 ≤ 1125899906842624) ∧ 0 ≤ (stepV a b c d nm x y z base).2.2.2 ∧ (stepV a b c d nm x y z base).2.2.2 ≤ 1125899906842624) := by
  by_cases h : stepE a b c d nm x y z base = 0
  · obtain ⟨e, -, -, r⟩ := step_is h
    rw [e]
    exact rightS_iff.1 r
  · unfold stepV
    rw [if_neg h]
    decide

end Go.Proofs.Ytibbgihcmcnamaa
