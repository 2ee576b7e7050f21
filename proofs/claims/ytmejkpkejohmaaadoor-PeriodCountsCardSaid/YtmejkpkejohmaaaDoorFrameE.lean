/-
  What is proved: what three days that came in give to a walk. Conditions: none.
-/
import Derived.Test.YtmejkpkejohmaaaDoorFrameD
namespace Go.Proofs.YtmejkpkejohmaaaDoor
open Go Go.ChangeShapes Go.WideShapes Go.ChangeAt Go.RowKit Go.Lib
set_option linter.unusedVariables false

theorem okWide_arr {P : Program} {w : World} {r : Reach} {base : Nat} {t : TypeId} {v : Value} {n : Nat} {e : TypeId} (ht : P.underlying t = some (.array n e)) (h : Value.okWide P w r base t v) : ∃ cs, v = .agg cs ∧ cs.size = P.cellsOf t := by
  simp only [Value.okWide, ht] at h
  obtain ⟨cs, h1, h2, _⟩ := h
  exact ⟨cs, h1, h2⟩
/-- A list's numbers, by their place. -/
def atL (l : List Int) : Nat → Int := fun i => l.getD i 0

section
variable {H : Type} {enc : TypeId × Value → H} {w : World} {base : Nat} {spare : Nat → Bool} {held : Bool}
theorem three_arg {r : Reach} {b0 : Nat} {v : Value} {d : DataW H} {p : List MemPlace} (hv : Value.okWide Tryd.prog w r b0 25 v) (h : DataW.Trod enc Tryd.prog w base spare held 25 v d p) :
    ∃ a b c : Int, v = .agg #[.int .i64 a, .int .i64 b, .int .i64 c] := by
  obtain ⟨cs, rfl, hsz⟩ := okWide_arr Tryd.underlying25 hv
  obtain ⟨fuel, hf⟩ := h
  obtain ⟨l⟩ := cs
  obtain ⟨xs, m, _, _, hl, hx, hall⟩ := DataW.trod_array Tryd.underlying25 hf
  rw [show Tryd.prog.cellsOf 25 = 3 by kernel_rfl] at hsz
  rw [show Tryd.prog.cellsOf 22 = 1 by kernel_rfl] at hall
  match l, hsz with
  | [c0, c1, c2], _ =>
    match xs, hx with
    | [y0, y1, y2], _ =>
      obtain ⟨a0, rfl, -⟩ := int_of (c := c0) Tryd.underlying22 (by simpa [Value.cells] using hall 0 (by omega))
      obtain ⟨a1, rfl, -⟩ := int_of (c := c1) Tryd.underlying22 (by simpa [Value.cells] using hall 1 (by omega))
      obtain ⟨a2, rfl, -⟩ := int_of (c := c2) Tryd.underlying22 (by simpa [Value.cells] using hall 2 (by omega))
      exact ⟨a0, a1, a2, rfl⟩
end

end Go.Proofs.YtmejkpkejohmaaaDoor
