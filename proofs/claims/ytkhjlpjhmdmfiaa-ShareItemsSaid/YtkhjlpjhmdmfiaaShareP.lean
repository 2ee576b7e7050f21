/-
  What is proved: plain facts on the parts of an amount: they add up, none is further than a cent from its exact part, a weight of nothing gets nothing, a greater weight's part isn't less; alike arrangements; weights made greater. Conditions: none.
-/
import Derived.Test.YtkhjlpjhmdmfiaaShareSel
import Derived.Test.YtkhjlpjhmdmfiaaShareD
namespace Go.Proofs.Ytkhjlpjhmdmfiaa

/-- A sum of numbers that are 0 but at the first places of an arrangement. -/
theorem sum_support {f : Nat → Nat} {n : Nat} : ∀ (i : Nat) (r : Nat → Nat), (∀ j, j < n → r j ≠ 0 → ∃ k, k < i ∧ f k = j) → sumN r n ≤ sumN (fun k => r (f k)) i
  | 0, r, h => by
    have : ∀ m, m ≤ n → sumN r m = 0 := by
      intro m
      induction m with
      | zero => intro _; rfl
      | succ m ih =>
        intro hm
        have h0 : r m = 0 := by
          rcases Nat.eq_zero_or_pos (r m) with e | e
          · exact e
          · obtain ⟨k, hk, -⟩ := h m (by omega) (by omega); omega
        rw [sumN, ih (by omega), h0]
    rw [this n (Nat.le_refl _)]; exact Nat.zero_le _
  | i + 1, r, h => by
    have h1 := sum_support (f := f) (n := n) i (fun j => if j = f i then 0 else r j) (by
      intro j hj hr
      by_cases e : j = f i
      · rw [if_pos e] at hr; omega
      · rw [if_neg e] at hr
        obtain ⟨k, hk, hf⟩ := h j hj hr
        have : k ≠ i := fun e2 => e (by rw [← hf, e2])
        exact ⟨k, by omega, hf⟩)
    have h2 : sumN r n ≤ sumN (fun j => if j = f i then 0 else r j) n + r (f i) := by
      have : ∀ m, sumN r m ≤ sumN (fun j => if j = f i then 0 else r j) m + (if f i < m then r (f i) else 0) := by
        intro m
        induction m with
        | zero => simp [sumN]
        | succ m ih =>
          rw [sumN, sumN]
          by_cases e : m = f i
          · rw [if_pos e, if_pos (show f i < m + 1 by omega)]
            rw [if_neg (show ¬ f i < m by omega)] at ih
            have e3 : r m = r (f i) := by rw [← e]
            omega
          · rw [if_neg e]
            by_cases e2 : f i < m
            · rw [if_pos e2] at ih; rw [if_pos (show f i < m + 1 by omega)]; omega
            · rw [if_neg e2] at ih; rw [if_neg (show ¬ f i < m + 1 by omega)]; omega
      have h3 := this n
      split at h3 <;> omega
    have h3 : sumN (fun k => if f k = f i then 0 else r (f k)) i ≤ sumN (fun k => r (f k)) i := by
      have : ∀ m, sumN (fun k => if f k = f i then 0 else r (f k)) m ≤ sumN (fun k => r (f k)) m := by
        intro m
        induction m with
        | zero => exact Nat.le_refl _
        | succ m ih => rw [sumN, sumN]; split <;> omega
      exact this i
    rw [sumN]
    omega
/-- Who gets a cent more has a rest. -/
theorem bumped_rest {a S n : Nat} {wt f : Nat → Nat} (hS : S = sumN wt n) (h0 : 0 < S) (hg : Good (rsN a S wt) f 0 n) {i : Nat} (hi : i < leftN a S wt n) : 0 < rsN a S wt (f i) := by
  have hl := left_lt (a := a) hS h0
  rcases Nat.eq_zero_or_pos (rsN a S wt (f i)) with e | e
  · exfalso
    have hm : leftN a S wt n < n := hl.2.1
    have hsup := sum_support (f := f) (n := n) i (rsN a S wt) (by
      intro j hj hr
      obtain ⟨k, -, hk, hf⟩ := hg.2.2 j (by omega) hj
      refine ⟨k, ?_, hf⟩
      rcases Nat.lt_or_ge k i with h | h
      · exact h
      · exfalso
        by_cases e2 : k = i
        · rw [← hf, e2] at hr; omega
        · have hb := hg.1 i k (by omega) (by omega) hk
          rw [← hf] at hr
          unfold bef at hb; omega)
    have hle : sumN (fun k => rsN a S wt (f k)) i ≤ i * S := sumN_bound i (fun j _ => Nat.le_of_lt (Nat.mod_lt _ h0))
    have h3 : S * leftN a S wt n = sumN (rsN a S wt) n := hl.2.2
    have h4 : S * (i + 1) ≤ S * leftN a S wt n := Nat.mul_le_mul_left S hi
    rw [Nat.mul_add, Nat.mul_one, Nat.mul_comm S i] at h4
    omega
  · exact e
theorem bump_new {f q : Nat → Nat} {j : Nat} : ∀ {m : Nat}, (∀ i, i < m → f i ≠ j) → bump f q m j = q j
  | 0, _ => rfl
  | m + 1, h => by
    have h1 : ¬ j = f m := fun e => h m (by omega) e.symm
    simp only [bump]
    rw [if_neg h1]
    exact bump_new (fun i hi => h i (by omega))
theorem bump_old {f q : Nat → Nat} {n : Nat} (hinj : ∀ i j, i < n → j < n → f i = f j → i = j) {k : Nat} : ∀ {m : Nat}, m ≤ n → k < m → bump f q m (f k) = q (f k) + 1
  | 0, _, h => by omega
  | m + 1, hm, h => by
    simp only [bump]
    by_cases e : k = m
    · subst e
      rw [if_pos rfl, bump_new (fun i hi hf => by have := hinj i k (by omega) (by omega) hf; omega)]
    · rw [if_neg (fun e2 => e (hinj k m (by omega) (by omega) e2))]
      exact bump_old hinj (by omega) (by omega)
theorem left_le {a S n : Nat} {wt : Nat → Nat} (hS : S = sumN wt n) (h0 : 0 < S) : leftN a S wt n ≤ n := Nat.le_of_lt (left_lt (a := a) hS h0).2.1
/-- Each part is its whole cents, or one more, and one more only where there is a rest. -/
theorem bump_two {a S n : Nat} {wt f : Nat → Nat} (hS : S = sumN wt n) (h0 : 0 < S) (hg : Good (rsN a S wt) f 0 n) {j : Nat} (hj : j < n) :
    bump f (whN a S wt) (leftN a S wt n) j = whN a S wt j ∨ (bump f (whN a S wt) (leftN a S wt n) j = whN a S wt j + 1 ∧ 0 < rsN a S wt j) := by
  obtain ⟨k, -, hk, rfl⟩ := hg.2.2 j (by omega) hj
  rcases Nat.lt_or_ge k (leftN a S wt n) with h | h
  · exact .inr ⟨bump_old (fun i j hi hj e => good_inj hg hi hj e) (left_le hS h0) h, bumped_rest hS h0 hg h⟩
  · refine .inl (bump_new (fun i hi e => ?_))
    have := good_inj hg (show i < n by have := left_le (a := a) hS h0; omega) hk e
    omega
theorem parts_sum {a S n : Nat} {wt f : Nat → Nat} (hS : S = sumN wt n) (h0 : 0 < S) (hg : Good (rsN a S wt) f 0 n) : sumN (bump f (whN a S wt) (leftN a S wt n)) n = a := by
  have hl := left_lt (a := a) hS h0
  rw [sum_bumps _ (fun i hi => (hg.2.1 i (by omega) (by have := left_le (a := a) hS h0; omega)).2)]
  have : sumN (whN a S wt) n ≤ a := hl.1
  unfold leftN
  omega
theorem parts_zero {a S n : Nat} {wt f : Nat → Nat} (hS : S = sumN wt n) (h0 : 0 < S) (hg : Good (rsN a S wt) f 0 n) {j : Nat} (hj : j < n) (hw : wt j = 0) : bump f (whN a S wt) (leftN a S wt n) j = 0 := by
  have h1 : whN a S wt j = 0 := by unfold whN; rw [hw]; simp
  have h2 : rsN a S wt j = 0 := by unfold rsN; rw [hw]; simp
  rcases bump_two hS h0 hg hj with h | ⟨_, h⟩ <;> omega
/-- Not a cent away. -/
theorem parts_near {a S n : Nat} {wt f : Nat → Nat} (hS : S = sumN wt n) (h0 : 0 < S) (hg : Good (rsN a S wt) f 0 n) {j : Nat} (hj : j < n) :
    bump f (whN a S wt) (leftN a S wt n) j * S < a * wt j + S ∧ a * wt j < bump f (whN a S wt) (leftN a S wt n) j * S + S := by
  have hd : S * whN a S wt j + rsN a S wt j = a * wt j := Nat.div_add_mod _ _
  have hr : rsN a S wt j < S := Nat.mod_lt _ h0
  rcases bump_two hS h0 hg hj with h | ⟨h, hp⟩ <;> rw [h]
  · rw [Nat.mul_comm (whN a S wt j) S]; omega
  · rw [Nat.add_mul, Nat.one_mul, Nat.mul_comm (whN a S wt j) S]; omega
theorem parts_mono {a S n : Nat} {wt f : Nat → Nat} (hS : S = sumN wt n) (h0 : 0 < S) (hg : Good (rsN a S wt) f 0 n) {i k : Nat} (hi : i < n) (hk : k < n) (hw : wt i < wt k) :
    bump f (whN a S wt) (leftN a S wt n) i ≤ bump f (whN a S wt) (leftN a S wt n) k := by
  rcases Nat.eq_zero_or_pos a with ha | ha
  · have hm : ∀ j, whN a S wt j = 0 ∧ rsN a S wt j = 0 := fun j => by unfold whN rsN; rw [ha]; simp
    rcases bump_two hS h0 hg hi with h | ⟨_, h⟩
    · rw [h, (hm i).1]; exact Nat.zero_le _
    · rw [(hm i).2] at h; omega
  have hlt : a * wt i < a * wt k := Nat.mul_lt_mul_of_pos_left hw ha
  have hdi : S * whN a S wt i + rsN a S wt i = a * wt i := Nat.div_add_mod _ _
  have hdk : S * whN a S wt k + rsN a S wt k = a * wt k := Nat.div_add_mod _ _
  have hq : whN a S wt i ≤ whN a S wt k := Nat.div_le_div_right (Nat.le_of_lt hlt)
  by_cases e : whN a S wt i = whN a S wt k
  · have hr : rsN a S wt i < rsN a S wt k := by rw [e] at hdi; omega
    obtain ⟨x, -, hx, hfx⟩ := hg.2.2 i (by omega) hi
    obtain ⟨y, -, hy, hfy⟩ := hg.2.2 k (by omega) hk
    have hyx : y < x := by
      rcases Nat.lt_or_ge y x with h | h
      · exact h
      · exfalso
        by_cases e2 : x = y
        · rw [e2, hfy] at hfx; rw [hfx] at hw; omega
        · have hb := hg.1 x y (by omega) (by omega) hy
          rw [hfx, hfy] at hb
          unfold bef at hb; omega
    rcases Nat.lt_or_ge x (leftN a S wt n) with h | h
    · have h1 := bump_old (q := whN a S wt) (fun i j hi hj e => good_inj hg hi hj e) (left_le (a := a) hS h0) h
      have h2 := bump_old (q := whN a S wt) (fun i j hi hj e => good_inj hg hi hj e) (left_le (a := a) hS h0) (Nat.lt_trans hyx h)
      rw [hfx] at h1
      rw [hfy] at h2
      omega
    · have h1 : bump f (whN a S wt) (leftN a S wt n) i = whN a S wt i := bump_new (fun z hz e2 => by
        rw [← hfx] at e2
        have := good_inj hg (show z < n by have := left_le (a := a) hS h0; omega) hx e2
        omega)
      rcases bump_two hS h0 hg hk with h2 | ⟨h2, -⟩ <;> omega
  · rcases bump_two hS h0 hg hi with h1 | ⟨h1, -⟩ <;> rcases bump_two hS h0 hg hk with h2 | ⟨h2, -⟩ <;> omega
/-- There is one right arrangement. -/
theorem good_uni {r f g : Nat → Nat} {n : Nat} (hf : Good r f 0 n) (hg : Good r g 0 n) : ∀ m, m ≤ n → ∀ i, i < m → f i = g i
  | 0, _, i, h => by omega
  | m + 1, hm, i, hi => by
    have ih := good_uni hf hg m (by omega)
    by_cases e : i = m
    · subst e
      obtain ⟨x, -, hx, ex⟩ := hf.2.2 (g i) (by omega) (hg.2.1 i (by omega) (by omega)).2
      obtain ⟨y, -, hy, ey⟩ := hg.2.2 (f i) (by omega) (hf.2.1 i (by omega) (by omega)).2
      have x1 : ¬ x < i := fun h => by
        have := ih x h
        rw [ex] at this
        have := good_inj hg (show i < n by omega) hx this
        omega
      have y1 : ¬ y < i := fun h => by
        have := ih y h
        rw [ey] at this
        have := good_inj hf hy (show i < n by omega) this
        omega
      by_cases xe : x = i
      · rw [xe] at ex; exact ex
      · have b1 := hf.1 i x (by omega) (by omega) hx
        by_cases ye : y = i
        · rw [ye] at ey; exact ey.symm
        · have b2 := hg.1 i y (by omega) (by omega) hy
          rw [ex] at b1
          rw [ey] at b2
          exact absurd b2 (bef_not b1)
    · exact ih i (by omega)
theorem bump_same {f g q p : Nat → Nat} : ∀ {m : Nat}, (∀ i, i < m → f i = g i) → ∀ j, q j = p j → bump f q m j = bump g p m j
  | 0, _, j, h => h
  | m + 1, h, j, e => by
    simp only [bump]
    rw [h m (by omega), bump_same (fun i hi => h i (by omega)) j e]
theorem good_scale {r s f : Nat → Nat} {n k : Nat} (hk : 0 < k) (e : ∀ j, j < n → s j = k * r j) (h : Good s f 0 n) : Good r f 0 n := by
  refine ⟨fun i j i0 ij jn => ?_, h.2.1, h.2.2⟩
  have hb := h.1 i j i0 ij jn
  have h1 := e (f i) (h.2.1 i i0 (by omega)).2
  have h2 := e (f j) (h.2.1 j (by omega) jn).2
  unfold bef at hb ⊢
  rw [h1, h2] at hb
  rcases hb with hb | ⟨hb, hc⟩
  · exact .inl (Nat.lt_of_mul_lt_mul_left hb)
  · exact .inr ⟨Nat.eq_of_mul_eq_mul_left hk hb, hc⟩
theorem sum_scale {r s : Nat → Nat} {k : Nat} : ∀ n, (∀ j, j < n → s j = k * r j) → sumN s n = k * sumN r n
  | 0, _ => rfl
  | n + 1, h => by rw [sumN, sumN, sum_scale n (fun j hj => h j (by omega)), h n (by omega), Nat.mul_add]
/-- All weights times one number: the same parts. -/
theorem parts_scale {a n k : Nat} {wt ws f g : Nat → Nat} (hk : 0 < k) (e : ∀ j, j < n → ws j = k * wt j) (h0 : 0 < sumN wt n) (hf : Good (rsN a (sumN wt n) wt) f 0 n) (hg : Good (rsN a (sumN ws n) ws) g 0 n) {j : Nat} (hj : j < n) :
    bump f (whN a (sumN wt n) wt) (leftN a (sumN wt n) wt n) j = bump g (whN a (sumN ws n) ws) (leftN a (sumN ws n) ws n) j := by
  have hS := sum_scale n e
  have hw : ∀ j, j < n → whN a (sumN ws n) ws j = whN a (sumN wt n) wt j := fun j hj => by
    unfold whN
    rw [hS, e j hj, show a * (k * wt j) = k * (a * wt j) by rw [← Nat.mul_assoc, Nat.mul_comm a k, Nat.mul_assoc]]
    exact Nat.mul_div_mul_left _ _ hk
  have hr : ∀ j, j < n → rsN a (sumN ws n) ws j = k * rsN a (sumN wt n) wt j := fun j hj => by
    unfold rsN
    rw [hS, e j hj, show a * (k * wt j) = k * (a * wt j) by rw [← Nat.mul_assoc, Nat.mul_comm a k, Nat.mul_assoc]]
    exact Nat.mul_mod_mul_left _ _ _
  have hl : leftN a (sumN ws n) ws n = leftN a (sumN wt n) wt n := by unfold leftN; rw [sumN_congr n hw]
  have hg2 := good_scale hk hr hg
  have h1 := good_uni hf hg2 n (Nat.le_refl _)
  rw [hl]
  exact bump_same (fun i hi => h1 i (by have := left_le (a := a) (wt := wt) (n := n) rfl h0; omega)) j (hw j hj).symm

end Go.Proofs.Ytkhjlpjhmdmfiaa
