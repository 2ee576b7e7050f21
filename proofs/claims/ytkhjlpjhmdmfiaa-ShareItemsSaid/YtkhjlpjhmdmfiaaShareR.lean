/-
  What is proved: what a slice of integers that came in gives to a walk. Conditions: none.
-/
import Derived.Test.YtkhjlpjhmdmfiaaShareF
import Derived.OpenShut
namespace Go.Proofs.Ytkhjlpjhmdmfiaa
open Go Go.RowKit

/-- What the walk is told of a slice of integers that came in. -/
def IsRow (k : IntKind) (w : World) (a : Option Addr) (len cap : Nat) (zs : List Int) : Prop :=
  (a = none ∧ len = 0 ∧ cap = 0 ∧ zs = []) ∨
  ∃ x, a = some x ∧ len ≤ cap ∧ cap ≤ maxLen ∧ zs.length = cap ∧ (∀ i, i < zs.length → w.cell? (x.add i) = some (.int k (zs.getD i 0))) ∧ ∀ n ∈ zs, (Lit.int k n).wf = true
/-- The numbers of any kind lie in memory. -/
def WtsK (k : IntKind) (w : World) (p : Option Addr) (n : Nat) (wt : Nat → Int) : Prop := n = 0 ∨ ∃ b o, p = some ⟨b, o, none⟩ ∧ ∀ j, j < n → w.cell? ⟨b, o + j, none⟩ = some (.int k (wt j))
theorem wtsK_of {k : IntKind} {w : World} {a : Option Addr} {len cap : Nat} {zs : List Int} (h : IsRow k w a len cap zs) :
    ∃ x : Nat → Int, WtsK k w a len x ∧ len ≤ maxLen ∧ ∀ j, j < len → (Lit.int k (x j)).wf = true := by
  rcases h with ⟨rfl, rfl, rfl, rfl⟩ | ⟨x, rfl, hl, hm, hz, hc, hw⟩
  · exact ⟨fun _ => 0, .inl rfl, by simp [maxLen], fun j h => by omega⟩
  · refine ⟨fun j => zs.getD j 0, ?_, by omega, fun j hj => hw _ ?_⟩
    · by_cases h0 : len = 0
      · exact .inl h0
      · obtain ⟨b, off, rfl, hc'⟩ := ints_at hc (by omega)
        exact .inr ⟨b, off, rfl, fun j hj => hc' j (by omega)⟩
    · have : zs.getD j 0 = zs[j]'(by omega) := by simp [List.getD, show j < zs.length by omega]
      show zs.getD j 0 ∈ zs
      rw [this]
      exact List.getElem_mem _
theorem wts_of {w : World} {a : Option Addr} {len cap : Nat} {zs : List Int} (h : IsRow .i64 w a len cap zs) :
    ∃ x : Nat → Int, Wts w a len x ∧ len ≤ maxLen ∧ ∀ j, j < len → (Lit.int .i64 (x j)).wf = true := wtsK_of h

end Go.Proofs.Ytkhjlpjhmdmfiaa
