/-
  What is proved: plain facts on the text of a week: its seven numbers with a blank between, read back. Conditions: none.
-/
import Derived.Test.YtbgilplaefdhbaaDoorDkS
import Derived.Lib.Itoa
import Derived.Lib.ItoaNum
namespace Go.Proofs.YtbgilplaefdhbaaDoor
open Go Go.Lib
set_option linter.unusedVariables false

theorem dd_cons (m : Nat) : decDigits m = if m < 10 then [48 + UInt8.ofNat (m % 10)] else decDigits (m / 10) ++ [48 + UInt8.ofNat (m % 10)] := by
  rw [decDigits]
  by_cases h : m < 10
  · rw [dif_pos h, if_pos h, Nat.mod_eq_of_lt h, UInt8.ofNat_add]; rfl
  · rw [dif_neg h, if_neg h, UInt8.ofNat_add]; rfl
theorem dig_toNat (k : Nat) (h : k < 10) : (48 + UInt8.ofNat k).toNat = 48 + k := by
  have : k = 0 ∨ k = 1 ∨ k = 2 ∨ k = 3 ∨ k = 4 ∨ k = 5 ∨ k = 6 ∨ k = 7 ∨ k = 8 ∨ k = 9 := by omega
  rcases this with rfl | rfl | rfl | rfl | rfl | rfl | rfl | rfl | rfl | rfl <;> rfl
theorem dd_ne (m : Nat) : decDigits m ≠ [] := by
  rw [dd_cons]; split <;> simp
theorem dig_isDg (k : Nat) (h : k < 10) : isDg (48 + UInt8.ofNat k) = true := by
  unfold isDg; rw [dig_toNat k h]; simp; omega
theorem dd_isDg : ∀ m, ∀ b ∈ decDigits m, isDg b = true := by
  intro m
  induction m using Nat.strongRecOn with
  | ind m ih =>
    intro b hb
    rw [dd_cons] at hb
    by_cases h : m < 10
    · rw [if_pos h] at hb
      rw [List.mem_singleton.1 hb]; exact dig_isDg _ (by omega)
    · rw [if_neg h] at hb
      rcases List.mem_append.1 hb with hb | hb
      · exact ih _ (by omega) b hb
      · rw [List.mem_singleton.1 hb]; exact dig_isDg _ (by omega)
theorem dd_val (m : Nat) : valN (decDigits m) = m := by
  induction m using Nat.strongRecOn with
  | ind m ih =>
    rw [dd_cons]
    by_cases h : m < 10
    · rw [if_pos h, show [48 + UInt8.ofNat (m % 10)] = [] ++ [48 + UInt8.ofNat (m % 10)] from rfl, valN_snoc, dig_toNat _ (by omega)]
      show 10 * 0 + _ = m
      omega
    · rw [if_neg h, valN_snoc, ih _ (by omega), dig_toNat _ (by omega)]; omega
theorem dd_head (m : Nat) (hm : 0 < m) : (decDigits m).head? ≠ some 48 := by
  induction m using Nat.strongRecOn with
  | ind m ih =>
    rw [dd_cons]
    by_cases h : m < 10
    · rw [if_pos h]
      simp only [List.head?_cons]
      intro e
      have e := congrArg UInt8.toNat (Option.some.inj e)
      rw [dig_toNat _ (by omega), show (48 : UInt8).toNat = 48 from rfl] at e
      omega
    · rw [if_neg h]
      have hh := ih (m / 10) (by omega) (by omega)
      obtain ⟨b, r, e⟩ := List.exists_cons_of_ne_nil (dd_ne (m / 10))
      rw [e] at hh ⊢
      exact hh
theorem dd_bad (m : Nat) : badN (decDigits m) = false := by
  refine badN_of (dd_ne m) (dd_isDg m) ?_
  by_cases h : 0 < m
  · exact .inl (dd_head m h)
  · obtain rfl : m = 0 := by omega
    exact .inr (by rw [dd_cons]; simp)
theorem dd_no32 (m : Nat) : ∀ b ∈ decDigits m, b ≠ 32 := by
  intro b hb e
  have := dd_isDg m b hb
  rw [e] at this
  cases this
theorem dd_len (m : Nat) (h : m < 10000) : (decDigits m).length ≤ 4 := by
  rw [dd_cons]
  split
  · simp
  · rw [List.length_append, dd_cons]
    split
    · simp
    · rw [List.length_append, dd_cons]
      split
      · simp
      · rw [List.length_append, dd_cons, if_pos (by omega)]
        simp
theorem fieldsL_plain : ∀ {f : List UInt8}, (∀ b ∈ f, b ≠ 32) → fieldsL f = [f]
  | [], _ => rfl
  | b :: f, h => fieldsL_cons (h b (List.mem_cons_self ..)) (fieldsL_plain (fun x hx => h x (List.mem_cons_of_mem _ hx)))
theorem fieldsL_more : ∀ {f : List UInt8} (r : List UInt8), (∀ b ∈ f, b ≠ 32) → fieldsL (f ++ 32 :: r) = f :: fieldsL r
  | [], r, _ => by rw [List.nil_append, fieldsL, if_pos rfl]
  | b :: f, r, h => fieldsL_cons (h b (List.mem_cons_self ..)) (fieldsL_more r (fun x hx => h x (List.mem_cons_of_mem _ hx)))

/-- The text of the first k numbers. -/
def txtK (q : Nat → Int) : Nat → List UInt8
  | 0 => []
  | k + 1 => txtK q k ++ ((if 0 < k then [32] else []) ++ itoa (q k))
theorem itoa_pos {n : Int} (h : 0 ≤ n) : itoa n = decDigits n.toNat := by
  unfold itoa
  rw [if_neg (by omega)]
theorem txtK_fields {q : Nat → Int} (h : ∀ j, j < 7 → 0 ≤ q j) : fieldsL (txtK q 7) = [itoa (q 0), itoa (q 1), itoa (q 2), itoa (q 3), itoa (q 4), itoa (q 5), itoa (q 6)] := by
  have e : txtK q 7 = itoa (q 0) ++ 32 :: (itoa (q 1) ++ 32 :: (itoa (q 2) ++ 32 :: (itoa (q 3) ++ 32 :: (itoa (q 4) ++ 32 :: (itoa (q 5) ++ 32 :: itoa (q 6)))))) := by
    simp [txtK]
  have n : ∀ j, j < 7 → ∀ b ∈ itoa (q j), b ≠ 32 := fun j hj => by rw [itoa_pos (h j hj)]; exact dd_no32 _
  rw [e, fieldsL_more _ (n 0 (by omega)), fieldsL_more _ (n 1 (by omega)), fieldsL_more _ (n 2 (by omega)), fieldsL_more _ (n 3 (by omega)), fieldsL_more _ (n 4 (by omega)), fieldsL_more _ (n 5 (by omega)), fieldsL_plain (n 6 (by omega))]
theorem itoa_bad {n : Int} (h : 0 ≤ n) : badN (itoa n) = false := by rw [itoa_pos h]; exact dd_bad _
theorem itoa_val {n : Int} (h : 0 ≤ n) : (valN (itoa n) : Int) = n := by rw [itoa_pos h, dd_val]; omega
theorem txtK_back {q : Nat → Int} (h : ∀ j, j < 7 → 0 ≤ q j ∧ q j ≤ 1440) : wfE (fieldsL (txtK q 7)) = 0 ∧ ∀ j, j < 7 → wfV (fieldsL (txtK q 7)) j = q j := by
  rw [txtK_fields (fun j hj => (h j hj).1)]
  have hv : ∀ j, j < 7 → ¬ 1440 < valN (itoa (q j)) := fun j hj => by
    have := itoa_val (h j hj).1
    have := h j hj
    omega
  have h0 : wfE [itoa (q 0), itoa (q 1), itoa (q 2), itoa (q 3), itoa (q 4), itoa (q 5), itoa (q 6)] = 0 := by
    have hm : ∀ f ∈ [itoa (q 0), itoa (q 1), itoa (q 2), itoa (q 3), itoa (q 4), itoa (q 5), itoa (q 6)], ∃ j, j < 7 ∧ f = itoa (q j) := fun f hf => by
      simp only [List.mem_cons, List.not_mem_nil, or_false] at hf
      rcases hf with hf | hf | hf | hf | hf | hf | hf
      · exact ⟨0, by omega, hf⟩
      · exact ⟨1, by omega, hf⟩
      · exact ⟨2, by omega, hf⟩
      · exact ⟨3, by omega, hf⟩
      · exact ⟨4, by omega, hf⟩
      · exact ⟨5, by omega, hf⟩
      · exact ⟨6, by omega, hf⟩
    rcases wfE_cases [itoa (q 0), itoa (q 1), itoa (q 2), itoa (q 3), itoa (q 4), itoa (q 5), itoa (q 6)] with ⟨-, h1 | ⟨f, hf, hb⟩⟩ | ⟨-, -, ⟨-, f, hf, hb⟩ | ⟨h1, -⟩⟩
    · exact absurd rfl h1
    · obtain ⟨j, hj, rfl⟩ := hm f hf
      rw [itoa_bad (h j hj).1] at hb; cases hb
    · obtain ⟨j, hj, rfl⟩ := hm f hf
      exact absurd hb (hv j hj)
    · exact h1
  refine ⟨h0, fun j hj => ?_⟩
  unfold wfV
  rw [if_pos h0]
  have : j = 0 ∨ j = 1 ∨ j = 2 ∨ j = 3 ∨ j = 4 ∨ j = 5 ∨ j = 6 := by omega
  rcases this with rfl | rfl | rfl | rfl | rfl | rfl | rfl <;> exact itoa_val (h _ (by omega)).1
theorem txtK_len {q : Nat → Int} (h : ∀ j, j < 7 → 0 ≤ q j ∧ q j ≤ 1440) : ∀ k, k ≤ 7 → (txtK q k).length ≤ 5 * k
  | 0, _ => by simp [txtK]
  | k + 1, hk => by
    have ih := txtK_len h k (by omega)
    have h1 := h k (by omega)
    have h2 := dd_len (q k).toNat (by omega)
    unfold txtK
    rw [List.length_append, List.length_append, itoa_pos h1.1]
    have : (if 0 < k then [(32 : UInt8)] else []).length ≤ 1 := by split <;> simp
    omega

/-- What the document's number has written, and what is left of it. -/
def NumI (m n : Nat) (s : List UInt8) : Prop := (s = [] ∧ n = m) ∨ (s ≠ [] ∧ ((n = 0 ∧ s = decDigits m) ∨ (0 < n ∧ decDigits n ++ s = decDigits m)))
theorem NumI.step {m n : Nat} {s : List UInt8} (h : NumI m n s) (hg : s = [] ∨ 0 < n) : NumI m (n / 10) ((48 + UInt8.ofNat (n % 10)) :: s) := by
  refine .inr ⟨by simp, ?_⟩
  have hd : decDigits n ++ s = decDigits m := by
    rcases h with ⟨rfl, rfl⟩ | ⟨h1, ⟨rfl, h2⟩ | ⟨h2, h3⟩⟩
    · simp
    · rcases hg with hg | hg
      · exact absurd hg h1
      · omega
    · exact h3
  by_cases h9 : n < 10
  · refine .inl ⟨by omega, ?_⟩
    rw [dd_cons n, if_pos h9] at hd
    simpa using hd
  · refine .inr ⟨by omega, ?_⟩
    rw [dd_cons n, if_neg h9] at hd
    simpa using hd
theorem NumI.end {m n : Nat} {s : List UInt8} (h : NumI m n s) (h1 : s ≠ []) (h2 : n = 0) : s = decDigits m := by
  rcases h with ⟨h, -⟩ | ⟨-, ⟨-, h⟩ | ⟨h, -⟩⟩
  · exact absurd h h1
  · exact h
  · omega
theorem NumI.len {m n : Nat} {s : List UInt8} (h : NumI m n s) : s.length ≤ (decDigits m).length := by
  rcases h with ⟨rfl, -⟩ | ⟨-, ⟨-, h⟩ | ⟨-, h⟩⟩
  · simp
  · rw [h]; exact Nat.le_refl _
  · rw [← h, List.length_append]; omega
theorem NumI.le {m n : Nat} {s : List UInt8} (h : NumI m n s) : n ≤ m := by
  rcases h with ⟨-, rfl⟩ | ⟨-, ⟨rfl, -⟩ | ⟨-, h⟩⟩
  · exact Nat.le_refl _
  · omega
  · have hv : valN (decDigits n ++ s) = m := by rw [h, dd_val]
    have h3 : valN (decDigits n) ≤ valN (decDigits n ++ s) := by
      unfold valN
      rw [List.foldl_append]
      exact fold_ge _ _
    rw [dd_val, hv] at h3
    exact h3

end Go.Proofs.YtbgilplaefdhbaaDoor
