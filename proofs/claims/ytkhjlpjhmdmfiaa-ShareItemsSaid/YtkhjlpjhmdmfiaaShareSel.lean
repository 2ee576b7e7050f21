/-
  What is proved: plain facts on choosing the greatest rest again and again: the choices are the places in their sorted order. Conditions: none.
-/
import Derived.Test.YtkhjlpjhmdmfiaaShareMath
namespace Go.Proofs.Ytkhjlpjhmdmfiaa

/-- The rests, those of the first m places struck out. -/
def mark (f r : Nat → Nat) : Nat → Nat → Int
  | 0 => fun j => (r j : Int)
  | m + 1 => fun j => if j = f m then -1 else mark f r m j
theorem mark_old {f r : Nat → Nat} : ∀ {m i : Nat}, i < m → mark f r m (f i) = -1
  | 0, i, h => by omega
  | m + 1, i, h => by
    simp only [mark]
    by_cases e : f i = f m
    · rw [if_pos e]
    · rw [if_neg e]
      exact mark_old (show i < m from by
        rcases Nat.lt_succ_iff_lt_or_eq.1 h with h | h
        · exact h
        · rw [h] at e; exact absurd rfl e)
theorem mark_new {f r : Nat → Nat} {j : Nat} : ∀ {m : Nat}, (∀ i, i < m → f i ≠ j) → mark f r m j = (r j : Int)
  | 0, _ => rfl
  | m + 1, h => by
    simp only [mark]
    rw [if_neg (fun e => h m (by omega) e.symm)]
    exact mark_new (fun i hi => h i (by omega))
theorem mark_bd {f r : Nat → Nat} {b : Nat} : ∀ (m j : Nat), r j ≤ b → -1 ≤ mark f r m j ∧ mark f r m j ≤ (b : Int)
  | 0, j, h => by simp only [mark]; omega
  | m + 1, j, h => by
    have := mark_bd (f := f) m j h
    simp only [mark]
    split <;> omega
theorem good_inj {r f : Nat → Nat} {n : Nat} (h : Good r f 0 n) {i j : Nat} (hi : i < n) (hj : j < n) (e : f i = f j) : i = j := by
  rcases Nat.lt_trichotomy i j with c | c | c
  · have := h.1 i j (by omega) c hj
    rw [e] at this
    exact absurd this bef_irr
  · exact c
  · have := h.1 j i (by omega) c hi
    rw [e] at this
    exact absurd this bef_irr
/-- The first of the greatest of what is left is the next place. -/
theorem select {r f : Nat → Nat} {n m b : Nat} (h : Good r f 0 n) (hm : m < n) (hb : b < n) (h1 : ∀ j, j < n → mark f r m j ≤ mark f r m b) (h2 : ∀ j, j < b → mark f r m j < mark f r m b) : b = f m := by
  obtain ⟨i, -, hi, hfi⟩ := h.2.2 b (by omega) hb
  have hfm := h.2.1 m (by omega) hm
  have em : mark f r m (f m) = (r (f m) : Int) := mark_new (fun k hk e => by have := good_inj h (by omega) hm e; omega)
  have g1 := h1 (f m) hfm.2
  rcases Nat.lt_trichotomy i m with c | c | c
  · have eb : mark f r m b = -1 := by rw [← hfi]; exact mark_old c
    omega
  · rw [← hfi, c]
  · have eb : mark f r m b = (r b : Int) := mark_new (fun k hk e => by have := good_inj h (by omega) hi (e.trans hfi.symm); omega)
    have hbf := h.1 m i (by omega) c hi
    rw [hfi] at hbf
    rcases hbf with l | ⟨l1, l2⟩
    · omega
    · have := h2 (f m) l2
      omega

end Go.Proofs.Ytkhjlpjhmdmfiaa
