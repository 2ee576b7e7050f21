/-
  What is proved: plain facts that the walks of the statements on civil lean on: bounds of their numbers; the date of the next day. Conditions: none.
-/
import Derived.Test.YtajhabnepodpbaaDoorCivAwake
namespace Go.Proofs.YtajhabnepodpbaaDoor
open Go Go.RowKit Go.Proofs

theorem bounds_u32 {z : Int} (h : (Lit.int .u32 z).wf = true) : 0 ≤ z ∧ z ≤ 4294967295 := by
  have h' : IntKind.u32.min ≤ z ∧ z ≤ IntKind.u32.max := by simpa [Lit.wf] using h
  exact h'
theorem bounds_i16 {z : Int} (h : (Lit.int .i16 z).wf = true) : -32768 ≤ z ∧ z ≤ 32767 := by
  have h' : IntKind.i16.min ≤ z ∧ z ≤ IntKind.i16.max := by simpa [Lit.wf] using h
  exact h'
theorem bounds_i64 {z : Int} (h : (Lit.int .i64 z).wf = true) : -9223372036854775808 ≤ z ∧ z ≤ 9223372036854775807 := by
  have h' : IntKind.i64.min ≤ z ∧ z ≤ IntKind.i64.max := by simpa [Lit.wf] using h
  exact h'

theorem wk_next (N : Int) (h1 : -25567 ≤ N) (h2 : N ≤ 84004) : wkV (N + 1) = (wkV N + 1) % 7 := by
  unfold wkV
  rw [inB_yes (by omega) (by omega), inB_yes (by omega) (by omega)]
  simp only [if_true]
  omega
theorem wk_bd (N : Int) (h1 : -25567 ≤ N) (h2 : N ≤ 84005) : 0 ≤ wkV N ∧ wkV N ≤ 6 := by
  unfold wkV
  rw [inB_yes (by omega) (by omega)]
  simp only [if_true]
  omega
theorem wk_week (N : Int) (h1 : -25567 ≤ N) (h2 : N + 7 ≤ 84005) : wkV (N + 7) = wkV N := by
  unfold wkV
  rw [inB_yes (by omega) (by omega), inB_yes (by omega) (by omega)]
  simp only [if_true]
  omega

/-- The date of the next day. -/
theorem next1 {y m d N : Int} (h : okB y m d = true) (hn : num y m d = N) (hd : d < dim y m) : okB y m (d + 1) = true ∧ num y m (d + 1) = N + 1 := by
  obtain ⟨a, b, c, e, f, g⟩ := okB_iff.1 h
  exact ⟨okB_iff.2 ⟨a, b, c, e, by omega, by omega⟩, by unfold num at *; omega⟩
theorem next2 {y m d N : Int} (h : okB y m d = true) (hn : num y m d = N) (hd : ¬ d < dim y m) (hm : m < 12) : okB y (m + 1) 1 = true ∧ num y (m + 1) 1 = N + 1 := by
  obtain ⟨a, b, c, e, f, g⟩ := okB_iff.1 h
  have h1 := cum_succ y m c e
  have h2 := dim_bd y (m + 1)
  exact ⟨okB_iff.2 ⟨a, b, by omega, by omega, by omega, by omega⟩, by unfold num at *; omega⟩
theorem next3 {y m d N : Int} (h : okB y m d = true) (hn : num y m d = N) (hd : ¬ d < dim y m) (hm : ¬ m < 12) (hN : N ≤ 84004) : okB (y + 1) 1 1 = true ∧ num (y + 1) 1 1 = N + 1 := by
  obtain ⟨a, b, c, e, f, g⟩ := okB_iff.1 h
  obtain rfl : m = 12 := by omega
  have h1 := cum_succ y 12 c e
  have h2 := dim_bd (y + 1) 1
  have h3 := jan_succ y
  have h4 : cum y (12 + 1) = 365 + lp y := cum_end y
  have h5 : y + 1 ≤ 2199 := by
    by_cases e : y = 2199
    · subst e
      have h6 : jan (2199 + 1) = 84006 := jan_last
      unfold num at hn
      omega
    · omega
  refine ⟨okB_iff.2 ⟨by omega, h5, by omega, by omega, by omega, by omega⟩, ?_⟩
  unfold num at *
  rw [cum_one]
  omega

end Go.Proofs.YtajhabnepodpbaaDoor
