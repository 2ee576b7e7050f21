/-
  What is proved: two facts on the program as a whole that each statement's frame asks for, and what sums and schemes that came in give to a walk. Conditions: none.
-/
import Derived.Test.YtibbgihcmcnamaaSoL
import Derived.ProofKit
import Derived.OpenShut
import Derived.ShutString
import Derived.ChangeOld
import Derived.Stop.Joined
import Derived.Deep.Slices
import Derived.ChangeSame
namespace Go.Proofs.Ytibbgihcmcnamaa
open Go Go.ChangeShapes Go.WideShapes Go.ChangeAt Go.RowKit
set_option linter.unusedVariables false

theorem own : ownKnob Try.prog.godebug = none := by kernel_rfl
theorem laidOut : laidOutB Try.prog = true := by kernel_rfl
section
variable {H : Type} {enc : TypeId × Value → H} {w : World} {base : Nat} {spare : Nat → Bool} {held : Bool}
theorem int_of {t : TypeId} {fuel : Nat} {c : Value} {y : DataW H × List MemPlace} (hu : Try.prog.underlying t = some (.int .i64)) (h : DataW.trod enc Try.prog w base spare held fuel t [c] = some y) : ∃ a : Int, c = .int .i64 a ∧ (Lit.int .i64 a).wf = true := by
  obtain ⟨n, hn, _, hw⟩ := DataW.trod_int (t := t) hu h
  exact ⟨n, by simpa using hn, hw⟩
set_option maxRecDepth 100000 in
theorem sums_arg {r : Reach} {b0 : Nat} {v : Value} {d : DataW H} {p : List MemPlace} (hv : Value.okWide Try.prog w r b0 24 v) (h : DataW.Trod enc Try.prog w base spare held 24 v d p) :
    ∃ a b c e : Int, v = .agg #[.int .i64 a, .int .i64 b, .int .i64 c, .int .i64 e] := by
  obtain ⟨cs, rfl, hsz⟩ := okWide_struct Try.underlying24 hv
  obtain ⟨fuel, hf⟩ := h
  obtain ⟨xs, n, _, hx, hl, hlen, hg⟩ := DataW.trod_struct Try.underlying24 hf
  rw [show Try.prog.cellsOf 24 = 4 by kernel_rfl] at hsz
  obtain ⟨l⟩ := cs
  match l, hsz with
  | [c0, c1, c2, c3], _ =>
    match xs, hlen with
    | [y0, y1, y2, y3], _ =>
      have g0 : DataW.trod enc Try.prog w base spare held n 22 ([c0, c1, c2, c3].take (Try.prog.cellsOf 22)) = some y0 := hg 0 _ rfl
      have g1 : DataW.trod enc Try.prog w base spare held n 22 (([c0, c1, c2, c3].drop 1).take (Try.prog.cellsOf 22)) = some y1 := hg 1 _ rfl
      have g2 : DataW.trod enc Try.prog w base spare held n 22 (([c0, c1, c2, c3].drop 2).take (Try.prog.cellsOf 22)) = some y2 := hg 2 _ rfl
      have g3 : DataW.trod enc Try.prog w base spare held n 22 (([c0, c1, c2, c3].drop 3).take (Try.prog.cellsOf 22)) = some y3 := hg 3 _ rfl
      rw [show Try.prog.cellsOf 22 = 1 by kernel_rfl] at g0 g1 g2 g3
      obtain ⟨a0, rfl, w0⟩ := int_of (c := c0) Try.underlying22 g0
      obtain ⟨a1, rfl, w1⟩ := int_of (c := c1) Try.underlying22 g1
      obtain ⟨a2, rfl, w2⟩ := int_of (c := c2) Try.underlying22 g2
      obtain ⟨a3, rfl, w3⟩ := int_of (c := c3) Try.underlying22 g3
      exact ⟨a0, a1, a2, a3, rfl⟩
set_option maxRecDepth 100000 in
theorem sch_cells {fuel : Nat} {cs : List Value} {x : DataW H × List MemPlace} (h : DataW.trod enc Try.prog w base spare held fuel 27 cs = some x) (hl : cs.length = 4) :
    ∃ (s : ByteArray) (a b c : Int), cs = [.string s, .int .i64 a, .int .i64 b, .int .i64 c] ∧ s.size ≤ maxLen := by
  obtain ⟨xs, n, _, hx, hl', hlen, hg⟩ := DataW.trod_struct Try.underlying27 h
  match cs, hl with
  | [c0, c1, c2, c3], _ =>
    match xs, hlen with
    | [y0, y1, y2, y3], _ =>
      have g0 : DataW.trod enc Try.prog w base spare held n 9 ([c0, c1, c2, c3].take (Try.prog.cellsOf 9)) = some y0 := hg 0 _ rfl
      have g1 : DataW.trod enc Try.prog w base spare held n 25 (([c0, c1, c2, c3].drop 1).take (Try.prog.cellsOf 25)) = some y1 := hg 1 _ rfl
      have g2 : DataW.trod enc Try.prog w base spare held n 25 (([c0, c1, c2, c3].drop 2).take (Try.prog.cellsOf 25)) = some y2 := hg 2 _ rfl
      have g3 : DataW.trod enc Try.prog w base spare held n 22 (([c0, c1, c2, c3].drop 3).take (Try.prog.cellsOf 22)) = some y3 := hg 3 _ rfl
      rw [show Try.prog.cellsOf 9 = 1 by kernel_rfl] at g0
      rw [show Try.prog.cellsOf 25 = 1 by kernel_rfl] at g1 g2
      rw [show Try.prog.cellsOf 22 = 1 by kernel_rfl] at g3
      obtain ⟨s, hs, _, hz⟩ := DataW.trod_string Try.underlying9 g0
      obtain rfl : c0 = .string s := by simpa using hs
      obtain ⟨a1, rfl, w1⟩ := int_of (c := c1) Try.underlying25 g1
      obtain ⟨a2, rfl, w2⟩ := int_of (c := c2) Try.underlying25 g2
      obtain ⟨a3, rfl, w3⟩ := int_of (c := c3) Try.underlying22 g3
      exact ⟨s, a1, a2, a3, rfl, hz⟩
set_option maxRecDepth 100000 in
theorem sch_arg {r : Reach} {b0 : Nat} {v : Value} {d : DataW H} {p : List MemPlace} (hv : Value.okWide Try.prog w r b0 27 v) (h : DataW.Trod enc Try.prog w base spare held 27 v d p) :
    ∃ (s : ByteArray) (a b c : Int), v = .agg #[.string s, .int .i64 a, .int .i64 b, .int .i64 c] ∧ s.size ≤ maxLen := by
  obtain ⟨cs, rfl, hsz⟩ := okWide_struct Try.underlying27 hv
  rw [show Try.prog.cellsOf 27 = 4 by kernel_rfl] at hsz
  obtain ⟨fuel, hf⟩ := h
  obtain ⟨s, a, b, c, he, hw⟩ := sch_cells hf (by simpa [Value.cells] using hsz)
  obtain ⟨l⟩ := cs
  simp [Value.cells] at he
  subst he
  exact ⟨s, a, b, c, rfl, hw⟩
end

end Go.Proofs.Ytibbgihcmcnamaa
