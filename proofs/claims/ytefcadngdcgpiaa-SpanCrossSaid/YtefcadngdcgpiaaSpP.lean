/-
  What is proved: plain facts on the pieces of a span. Conditions: none.
-/
import Derived.Test.YtefcadngdcgpiaaSpO
namespace Go.Proofs.Ytefcadngdcgpiaa
open Go Go.RowKit Go.Proofs

theorem dsum_take_le (K : List Sp) (k : Nat) : dsum (K.take k) ≤ dsum K := by
  have h := dsum_app (K.take k) (K.drop k)
  rw [List.take_append_drop] at h
  have := dsum_nn (K.drop k)
  omega
/-- What the pieces of a span are, one by one. -/
theorem pieces_facts {a b : Int} {D r : List Int} (h : CutsOf a b D r) (hab : a < b) {i : Nat} (hi : i < (pcs a r b).length) :
    ((pcs a r b).getD i (0, 0)).1 < ((pcs a r b).getD i (0, 0)).2 ∧ (i = 0 → ((pcs a r b).getD i (0, 0)).1 = a) ∧ (0 < i → ((pcs a r b).getD i (0, 0)).1 ∈ D ∧ ((pcs a r b).getD (i - 1) (0, 0)).2 = ((pcs a r b).getD i (0, 0)).1) ∧ (∀ d ∈ D, ¬ (((pcs a r b).getD i (0, 0)).1 < d ∧ d < ((pcs a r b).getD i (0, 0)).2)) ∧ (i + 1 = (pcs a r b).length → ((pcs a r b).getD i (0, 0)).2 = b) ∧ a ≤ ((pcs a r b).getD i (0, 0)).1 ∧ ((pcs a r b).getD i (0, 0)).2 ≤ b := by
  obtain ⟨hr, hm⟩ := h
  rw [pcs_len] at hi ⊢
  have hl : (a :: r).length = r.length + 1 := by simp
  have hall : ∀ j, j < r.length + 1 → (0 < j → (a :: r).getD j 0 ∈ r) ∧ a ≤ (a :: r).getD j 0 ∧ (a :: r).getD j 0 < b := fun j hj => by
    cases j with
    | zero => exact ⟨fun h => by omega, by simp, by simpa using hab⟩
    | succ j =>
      have hj' : j < r.length := by omega
      have hmem : (a :: r).getD (j + 1) 0 ∈ r := by
        show r.getD j 0 ∈ r
        rw [getD_at r 0 hj']
        exact List.getElem_mem _
      obtain ⟨-, h1, h2⟩ := (hm _).1 hmem
      exact ⟨fun _ => hmem, by omega, h2⟩
  have e := pcs_at a r b i hi
  rw [e]
  dsimp only
  obtain ⟨q1, q2, q3⟩ := hall i hi
  have hlt : (a :: r).getD i 0 < if i + 1 < r.length + 1 then (a :: r).getD (i + 1) 0 else b := by
    split
    · rename_i h
      exact rise_at hr (by omega) (by rw [hl]; exact h)
    · exact q3
  refine ⟨hlt, fun h0 => by subst h0; rfl, fun h0 => ⟨((hm _).1 (q1 h0)).1, ?_⟩, fun d hd ⟨h1, h2⟩ => ?_, fun h1 => by rw [if_neg (by omega)], q2, ?_⟩
  · rw [pcs_at a r b (i - 1) (by omega)]
    dsimp only
    rw [if_pos (by omega), show i - 1 + 1 = i by omega]
  · have hdb : d < b := by
      split at h2
      · have := (hall (i + 1) (by omega)).2.2; omega
      · exact h2
    have hdr : d ∈ r := (hm d).2 ⟨hd, by omega, hdb⟩
    obtain ⟨j, hj, rfl⟩ := List.getElem_of_mem hdr
    have ej : (a :: r).getD (j + 1) 0 = r[j] := by show r.getD j 0 = r[j]; exact getD_at r 0 hj
    rw [← ej] at h1 h2
    rcases Nat.lt_trichotomy i (j + 1) with hij | hij | hij
    · split at h2
      · rename_i hc
        rcases Nat.lt_or_ge (i + 1) (j + 1) with h3 | h3
        · have := rise_at hr h3 (by rw [hl]; omega); omega
        · have : i + 1 = j + 1 := by omega
          rw [this] at h2; omega
      · omega
    · rw [hij] at h1; omega
    · have := rise_at hr hij (by rw [hl]; exact hi); omega
  · split
    · have := (hall (i + 1) (by omega)).2.2; omega
    · exact Int.le_refl _
/-- Does one of the first k days equal a day, or was it told before? -/
def cutB (z : Bool) (D : List Int) (x : Int) (k : Nat) : Bool := z || (D.take k).contains x
theorem cutB_zero (z : Bool) (D : List Int) (x : Int) : cutB z D x 0 = z := by simp [cutB]
theorem cutB_succ {z : Bool} {D : List Int} {x : Int} {k : Nat} (h : k < D.length) : cutB z D x (k + 1) = (cutB z D x k || D.getD k 0 == x) := by
  unfold cutB
  rw [List.take_add_one, getD_at D 0 h, Bool.or_assoc]
  congr 1
  simp only [List.getElem?_eq_getElem h, Option.toList_some, List.contains_append, List.contains_cons, List.contains_nil, Bool.or_false]
  congr 1
  rw [Bool.eq_iff_iff]; simp; exact ⟨fun h => h.symm, fun h => h.symm⟩
theorem cutB_all {z : Bool} {D : List Int} {x : Int} (h : z = true ∨ x ∈ D) : cutB z D x D.length = true := by
  unfold cutB
  rw [List.take_length]
  rcases h with rfl | h
  · rfl
  · simp [h]

end Go.Proofs.Ytefcadngdcgpiaa
