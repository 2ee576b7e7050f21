/-
  What is proved: plain facts on how a calendar's own periods are counted: by a number of each of them. Conditions: none.
-/
import Derived.Test.YtfmabjfibjnkoaaDoorPdJ
namespace Go.Proofs.YtfmabjfibjnkoaaDoor
open Go Go.RowKit Go.Proofs
set_option linter.unusedVariables false

theorem Owned.ends {k f l y i n a b p : Int} (h : Owned k f l y i n a b p) : Ends k f y a b := OwnP.ends h.2
theorem owned_len {f l y i n a b p : Int} (h : Owned 0 f l y i n a b p) : 1 ≤ i ∧ i ≤ 12 := by
  obtain ⟨h1, h2, K, hK, j, hj, rfl, -, -, -⟩ := h.2
  have e := hK.one (month_list f y h1 h2)
  rw [e] at hj
  simp at hj
  omega
theorem owned_ord {k f l y i n a b p y' i' n' a' b' p' : Int} (h : Owned k f l y i n a b p) (h' : Owned k f l y' i' n' a' b' p') : a < a' ↔ (y < y' ∨ (y = y' ∧ i < i')) := by
  have E := h.ends
  have E' := h'.ends
  have l1 := E.1.len
  have l2 := E'.1.len
  have key : ∀ {u v c d c' d' : Int}, Blk k f c d → Blk k f c' d' → u < v → d ≤ jan (u + 1) → jan v < d' → c < c' := by
    intro u v c d c' d' hB hB' huv h1 h2
    have := jan_mono (u + 1) v (by omega)
    have m1 := hB.len
    have m2 := hB'.len
    rcases Int.lt_trichotomy c c' with g | g | g
    · exact g
    · subst g
      have := Blk.one (d := c) hB hB' (by omega) (by omega) (by omega) (by omega)
      omega
    · have := Blk.apart hB' hB g
      omega
  rcases Int.lt_trichotomy y y' with g | rfl | g
  · have := key E.1 E'.1 g E.2.2.2.2 E'.2.2.2.1
    constructor
    · intro _; exact .inl g
    · intro _; exact this
  · obtain ⟨-, -, K, hK, j, hj, rfl, -, e, -⟩ := h.2
    obtain ⟨-, -, K', hK', j', hj', rfl, -, e', -⟩ := h'.2
    obtain rfl := hK.one hK'
    rw [getD_ix2 hj] at e
    rw [getD_ix2 hj'] at e'
    have hp := List.pairwise_iff_getElem.1 hK.1
    have ea : a = K[j].1 := by rw [e]
    have ea' : a' = K[j'].1 := by rw [e']
    rcases Nat.lt_trichotomy j j' with g | rfl | g
    · have := hp j j' hj hj' g
      constructor
      · intro _; right; exact ⟨rfl, by omega⟩
      · intro _; omega
    · omega
    · have := hp j' j hj' hj g
      omega
  · have := key E'.1 E.1 g E'.2.2.2.2 E.2.2.2.1
    omega
theorem owned_same {k f l y i n a b p y' i' n' a' b' p' : Int} (h : Owned k f l y i n a b p) (h' : Owned k f l y' i' n' a' b' p') (e : a = a') : y = y' ∧ i = i' ∧ n = n' ∧ a = a' ∧ b = b' ∧ p = p' := by
  have l1 := h.ends.1.len
  have l2 := h'.ends.1.len
  exact OwnP.one (d := a) h.2 h'.2 (by omega) (by omega) (by omega) (by omega)
/-- A number of a period: how many lie between two is their difference. -/
def IxIs (k f y i a I : Int) : Prop := (k = 0 ∧ I = 12 * y + i ∧ 1 ≤ i ∧ i ≤ 12) ∨ (k = 1 ∧ a = f + 14 * I) ∨ (k = 2 ∧ a = f + 28 * I)
theorem owned_ix {k f l y i n a b p : Int} (h : Owned k f l y i n a b p) : ∃ I, IxIs k f y i a I := by
  obtain ⟨hk, -, -, -⟩ := chkC_zero h.1
  rcases hk with rfl | rfl | rfl
  · exact ⟨12 * y + i, .inl ⟨rfl, rfl, owned_len h⟩⟩
  · rcases h.ends.1 with ⟨h0, -⟩ | ⟨-, -, hm⟩
    · omega
    · exact ⟨(a - f) / 14, .inr (.inl ⟨rfl, by omega⟩)⟩
  · rcases h.ends.1 with ⟨h0, -⟩ | ⟨-, -, hm⟩
    · omega
    · exact ⟨(a - f) / 28, .inr (.inr ⟨rfl, by omega⟩)⟩
theorem cnt_ix {k f y i a y' i' a' I I' : Int} (h : IxIs k f y i a I) (h' : IxIs k f y' i' a' I') : cntV k y i a y' i' a' = I' - I := by
  unfold cntV
  rcases h with ⟨rfl, rfl, -, -⟩ | ⟨rfl, rfl⟩ | ⟨rfl, rfl⟩
  · rcases h' with ⟨-, rfl, -, -⟩ | ⟨h0, -⟩ | ⟨h0, -⟩
    · rw [if_pos rfl]; omega
    · omega
    · omega
  · rcases h' with ⟨h0, -⟩ | ⟨-, rfl⟩ | ⟨h0, -⟩
    · omega
    · rw [if_neg (by omega), show f + 14 * I' - (f + 14 * I) = 14 * 1 * (I' - I) by omega]
      exact Int.mul_tdiv_cancel_left _ (by omega)
    · omega
  · rcases h' with ⟨h0, -⟩ | ⟨h0, -⟩ | ⟨-, rfl⟩
    · omega
    · omega
    · rw [if_neg (by omega), show f + 28 * I' - (f + 28 * I) = 14 * 2 * (I' - I) by omega]
      exact Int.mul_tdiv_cancel_left _ (by omega)
theorem ix_lt {k f l y i n a b p y' i' n' a' b' p' I I' : Int} (h : Owned k f l y i n a b p) (h' : Owned k f l y' i' n' a' b' p') (e : IxIs k f y i a I) (e' : IxIs k f y' i' a' I') : I < I' ↔ a < a' := by
  have ho := owned_ord h h'
  rcases e with ⟨rfl, rfl, h1, h2⟩ | ⟨rfl, h1⟩ | ⟨rfl, h1⟩
  · rcases e' with ⟨-, rfl, h3, h4⟩ | ⟨h0, -⟩ | ⟨h0, -⟩ <;> omega
  · rcases e' with ⟨h0, -⟩ | ⟨-, h3⟩ | ⟨h0, -⟩ <;> omega
  · rcases e' with ⟨h0, -⟩ | ⟨h0, -⟩ | ⟨-, h3⟩ <;> omega
/-- What Count tells of two own periods. -/
theorem Count_own {k f l y i n a b p y' i' n' a' b' p' I I' : Int} (h : Owned k f l y i n a b p) (h' : Owned k f l y' i' n' a' b' p') (e : IxIs k f y i a I) (e' : IxIs k f y' i' a' I') (w : World) (hT : Tabs w) :
    Calls Tryd.prog 11 #[.agg #[.int .i64 k, .int .i64 f, .int .i64 l], .agg #[.int .i64 y, .int .i64 i, .int .i64 n, .int .i64 a, .int .i64 b, .int .i64 p], .agg #[.int .i64 y', .int .i64 i', .int .i64 n', .int .i64 a', .int .i64 b', .int .i64 p']] w fun e w' => e = .returned (.int .i64 (I' - I)) ∧ Below w.heap.size w w' := by
  refine (Count_any k f l y i n a b p y' i' n' a' b' p' w hT).mono ?_
  rintro e w' ⟨r, rfl, hr, hb⟩
  rcases hr with ⟨h0, -⟩ | ⟨-, -, rfl⟩
  · exact absurd ⟨h, h'⟩ h0
  · exact ⟨by rw [cnt_ix ‹IxIs k f y i a I› e'], hb⟩
theorem cnt_bd {k f l y i n a b p y' i' n' a' b' p' I I' : Int} (h : Owned k f l y i n a b p) (h' : Owned k f l y' i' n' a' b' p') (e : IxIs k f y i a I) (e' : IxIs k f y' i' a' I') : -200000 ≤ I' - I ∧ I' - I ≤ 200000 := by
  obtain ⟨-, b1, b2, b3, b4, b5, b6, b7, b8⟩ := h.bd
  obtain ⟨-, c1, c2, c3, c4, c5, c6, c7, c8⟩ := h'.bd
  rcases e with ⟨rfl, rfl, h1, h2⟩ | ⟨rfl, h1⟩ | ⟨rfl, h1⟩
  · rcases e' with ⟨-, rfl, h3, h4⟩ | ⟨h0, -⟩ | ⟨h0, -⟩ <;> omega
  · rcases e' with ⟨h0, -⟩ | ⟨-, h3⟩ | ⟨h0, -⟩ <;> omega
  · rcases e' with ⟨h0, -⟩ | ⟨h0, -⟩ | ⟨-, h3⟩ <;> omega
/-- What Find tells of a day is one of the calendar's own, or nothing. -/
theorem FindR.cases {k f l d y i n a b p e : Int} (h : FindR k f l d y i n a b p e) : (e ≠ 0 ∧ y = 0 ∧ i = 0 ∧ n = 0 ∧ a = 0 ∧ b = 0 ∧ p = 0) ∨ (e = 0 ∧ Owned k f l y i n a b p) := by
  rcases h with ⟨hc, rfl, rfl, rfl, rfl, rfl, rfl, rfl⟩ | ⟨hc, hd, rfl, rfl, rfl, rfl, rfl, rfl, rfl⟩ | ⟨hc, hd, -, rfl, rfl, rfl, rfl, rfl, rfl, rfl⟩ | ⟨hc, hd, ho, h1, h2, rfl⟩
  · exact .inl ⟨hc, rfl, rfl, rfl, rfl, rfl, rfl⟩
  · exact .inl ⟨by omega, rfl, rfl, rfl, rfl, rfl, rfl⟩
  · exact .inl ⟨by omega, rfl, rfl, rfl, rfl, rfl, rfl⟩
  · exact .inr ⟨rfl, hc, ho⟩

end Go.Proofs.YtfmabjfibjnkoaaDoor
