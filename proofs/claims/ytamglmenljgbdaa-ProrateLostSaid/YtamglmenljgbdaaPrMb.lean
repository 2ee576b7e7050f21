/-
  What is proved: plain facts on what is lost: all minutes, unpaid, are the salary; none, or paid by all, nothing; more minutes lose not less, and what is paid more loses not more. Conditions: as there.
-/
import Derived.Test.YtamglmenljgbdaaPrB
namespace Go.Proofs.Ytamglmenljgbdaa
open Go Go.RowKit Go.Proofs

theorem loss_err {k c m l p : Int} (h : (lossVE k c m l p).2 ≠ 0) : (lossVE k c m l p).1 = 0 := by
  unfold lossVE at h ⊢
  split
  · rename_i ho
    rw [if_pos ho] at h
    split
    · rfl
    · rename_i h0
      rw [if_neg h0] at h
      exact Ra.partVE_err _ _ _ _ h
  · rfl
theorem loss_ok {k c m l p : Int} (h : (lossVE k c m l p).2 = 0) : lossOk k c m l p := by
  unfold lossVE at h
  split at h
  · assumption
  · cases h
theorem loss_of {k c m l p : Int} (h : lossOk k c m l p) : lossVE k c m l p = if m = 0 then (0, 0) else Ra.partVE c (l * (1000000 - p)) (m * 1000000) 1 := by unfold lossVE; rw [if_pos h]
theorem rnd_zero {D : Nat} (hD : 0 < D) : Ra.rnd 1 D 0 = 0 := by
  have := Ra.rnd_exact 1 D hD 0
  rwa [Int.zero_mul] at this
theorem loss_no {k c m l p : Int} (h : lossOk k c m l p) (h0 : l * (1000000 - p) = 0) : lossVE k c m l p = (0, 0) := by
  rw [loss_of h]
  split
  · rfl
  · rename_i hm
    obtain ⟨hf, h1, h2, h3, h4, h5, h6⟩ := h
    rw [h0, Ra.partVE_val _ _ _ _ hf (by omega) (by omega) (by omega), Int.mul_zero, rnd_zero (by omega)]
    rfl
theorem loss_all {k c m : Int} (h : lossOk k c m m 0) (h0 : 0 < m) : lossVE k c m m 0 = (c, 0) := by
  rw [loss_of h, if_neg (by omega)]
  obtain ⟨hf, h1, h2, h3, h4, h5, h6⟩ := h
  have e : Ra.rnd 1 (m * 1000000).toNat (c * (m * (1000000 - 0))) = c := by
    have := Ra.rnd_exact 1 (m * 1000000).toNat (by omega) c
    rwa [Int.toNat_of_nonneg (by omega)] at this
  have hb := Ra.fitsB_iff.1 hf
  rw [Ra.partVE_val _ _ _ _ hf (by omega) (by omega) (by omega), e, if_pos (by omega)]
theorem loss_val {k c m l p : Int} (h : (lossVE k c m l p).2 = 0) (hm : m ≠ 0) : (lossVE k c m l p).1 = Ra.rnd 1 (m * 1000000).toNat (c * (l * (1000000 - p))) := by
  have ho := loss_ok h
  rw [loss_of ho, if_neg hm] at h ⊢
  exact (Ra.partVE_ok _ _ _ _ h).2.2.2.2.2
theorem loss_m0 {k c l p : Int} (h : (lossVE k c 0 l p).2 = 0) : (lossVE k c 0 l p).1 = 0 := by
  rw [loss_of (loss_ok h), if_pos rfl]
theorem loss_mono {k c m l p l' p' : Int} (hc : 0 ≤ c) (h : (lossVE k c m l p).2 = 0) (h' : (lossVE k c m l' p').2 = 0) (hn : l * (1000000 - p) ≤ l' * (1000000 - p')) : (lossVE k c m l p).1 ≤ (lossVE k c m l' p').1 := by
  by_cases hm : m = 0
  · subst hm
    rw [loss_m0 h, loss_m0 h']; exact Int.le_refl _
  · rw [loss_val h hm, loss_val h' hm]
    exact Ra.rnd_rises 1 _ _ _ (Int.mul_le_mul_of_nonneg_left hn hc)
theorem loss_bd {k c m l p : Int} (hc : 0 ≤ c) (hall : (lossVE k c m m 0).2 = 0) (h : (lossVE k c m l p).2 = 0) : 0 ≤ (lossVE k c m l p).1 ∧ (lossVE k c m l p).1 ≤ c := by
  have ho := loss_ok hall
  have h2 := loss_ok h
  obtain ⟨hf, h1, h3, h4, h5, h6, h7⟩ := ho
  obtain ⟨-, -, -, g1, g2, g3, g4⟩ := h2
  have hno : lossOk k c m 0 0 := ⟨hf, h1, h3, by omega, by omega, by omega, by omega⟩
  have e0 := loss_no hno (by rw [Int.zero_mul])
  have n1 : 0 ≤ l * (1000000 - p) := Int.mul_nonneg (by omega) (by omega)
  have n2 : l * (1000000 - p) ≤ m * (1000000 - 0) := Int.mul_le_mul (by omega) (by omega) (by omega) (by omega)
  have a1 := loss_mono (l := 0) (p := 0) (l' := l) (p' := p) hc (by rw [e0]) h (by rw [Int.zero_mul]; exact n1)
  rw [e0] at a1
  refine ⟨a1, ?_⟩
  by_cases hm : m = 0
  · subst hm; rw [loss_m0 h]; exact hc
  · have a2 := loss_mono hc h hall n2
    rw [loss_all (loss_ok hall) (by omega)] at a2
    exact a2

end Go.Proofs.Ytamglmenljgbdaa
