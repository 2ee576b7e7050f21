/-
  What is proved: two facts on the program as a whole that each statement's frame asks for, and what periods and pieces that came in give to a walk. Conditions: none.
-/
import Derived.Test.YtamglmenljgbdaaPrF
import Derived.ProofKit
import Derived.OpenShut
import Derived.ShutString
import Derived.ChangeOld
import Derived.Stop.Joined
import Derived.Deep.Slices
import Derived.ChangeSame
namespace Go.Proofs.Ytamglmenljgbdaa
open Go Go.ChangeShapes Go.WideShapes Go.ChangeAt Go.RowKit
set_option linter.unusedVariables false

theorem own : ownKnob Try.prog.godebug = none := by kernel_rfl
theorem laidOut : laidOutB Try.prog = true := by kernel_rfl
theorem in64_wf {n : Int} (h : (Lit.int .i64 n).wf = true) : in64 n := by
  simp [Lit.wf, IntKind.min, IntKind.max, IntKind.signed, IntKind.bits] at h
  unfold in64
  omega
section
variable {H : Type} {enc : TypeId × Value → H} {w : World} {base : Nat} {spare : Nat → Bool} {held : Bool}
theorem int_of {t : TypeId} {fuel : Nat} {c : Value} {y : DataW H × List MemPlace} (hu : Try.prog.underlying t = some (.int .i64)) (h : DataW.trod enc Try.prog w base spare held fuel t [c] = some y) : ∃ a : Int, c = .int .i64 a ∧ in64 a := by
  obtain ⟨n, hn, _, hw⟩ := DataW.trod_int (t := t) hu h
  exact ⟨n, by simpa using hn, in64_wf hw⟩
theorem span_of {fuel : Nat} {c0 c1 : Value} {y : DataW H × List MemPlace} (h : DataW.trod enc Try.prog w base spare held fuel 24 [c0, c1] = some y) : ∃ a b : Int, c0 = .int .i64 a ∧ c1 = .int .i64 b ∧ in64 a ∧ in64 b := by
  obtain ⟨zs, m, _, _, _, hzl, hz⟩ := DataW.trod_struct Try.underlying24 h
  match zs, hzl with
  | [u0, u1], _ =>
    have k0 : DataW.trod enc Try.prog w base spare held m 22 ([c0, c1].take (Try.prog.cellsOf 22)) = some u0 := hz 0 _ rfl
    have k1 : DataW.trod enc Try.prog w base spare held m 22 (([c0, c1].drop 1).take (Try.prog.cellsOf 22)) = some u1 := hz 1 _ rfl
    rw [show Try.prog.cellsOf 22 = 1 by kernel_rfl] at k0 k1
    obtain ⟨a3, rfl, w3⟩ := int_of (c := c0) Try.underlying22 k0
    obtain ⟨a4, rfl, w4⟩ := int_of (c := c1) Try.underlying22 k1
    exact ⟨a3, a4, rfl, rfl, w3, w4⟩
set_option maxRecDepth 100000 in
theorem per_arg {r : Reach} {b0 : Nat} {v : Value} {d : DataW H} {p : List MemPlace} (hv : Value.okWide Try.prog w r b0 26 v) (h : DataW.Trod enc Try.prog w base spare held 26 v d p) :
    ∃ y i n a b q : Int, v = .agg #[.int .i64 y, .int .i64 i, .int .i64 n, .int .i64 a, .int .i64 b, .int .i64 q] ∧ in64 y ∧ in64 i ∧ in64 n ∧ in64 a ∧ in64 b ∧ in64 q := by
  obtain ⟨cs, rfl, hsz⟩ := okWide_struct Try.underlying26 hv
  obtain ⟨fuel, hf⟩ := h
  obtain ⟨xs, n, _, hx, hl, hlen, hg⟩ := DataW.trod_struct Try.underlying26 hf
  rw [show Try.prog.cellsOf 26 = 6 by kernel_rfl] at hsz
  obtain ⟨l⟩ := cs
  match l, hsz with
  | [c0, c1, c2, c3, c4, c5], _ =>
    match xs, hlen with
    | [y0, y1, y2, y3, y4], _ =>
      have g0 : DataW.trod enc Try.prog w base spare held n 3 ([c0, c1, c2, c3, c4, c5].take (Try.prog.cellsOf 3)) = some y0 := hg 0 _ rfl
      have g1 : DataW.trod enc Try.prog w base spare held n 3 (([c0, c1, c2, c3, c4, c5].drop 1).take (Try.prog.cellsOf 3)) = some y1 := hg 1 _ rfl
      have g2 : DataW.trod enc Try.prog w base spare held n 3 (([c0, c1, c2, c3, c4, c5].drop 2).take (Try.prog.cellsOf 3)) = some y2 := hg 2 _ rfl
      have g3 : DataW.trod enc Try.prog w base spare held n 24 (([c0, c1, c2, c3, c4, c5].drop 3).take (Try.prog.cellsOf 24)) = some y3 := hg 3 _ rfl
      have g4 : DataW.trod enc Try.prog w base spare held n 22 (([c0, c1, c2, c3, c4, c5].drop 5).take (Try.prog.cellsOf 22)) = some y4 := hg 4 _ rfl
      rw [show Try.prog.cellsOf 3 = 1 by kernel_rfl] at g0 g1 g2
      rw [show Try.prog.cellsOf 24 = 2 by kernel_rfl] at g3
      rw [show Try.prog.cellsOf 22 = 1 by kernel_rfl] at g4
      obtain ⟨a0, rfl, w0⟩ := int_of (c := c0) Try.underlying3 g0
      obtain ⟨a1, rfl, w1⟩ := int_of (c := c1) Try.underlying3 g1
      obtain ⟨a2, rfl, w2⟩ := int_of (c := c2) Try.underlying3 g2
      obtain ⟨a5, rfl, w5⟩ := int_of (c := c5) Try.underlying22 g4
      obtain ⟨a3, a4, rfl, rfl, w3, w4⟩ := span_of (c0 := c3) (c1 := c4) g3
      exact ⟨a0, a1, a2, a3, a4, a5, rfl, w0, w1, w2, w3, w4, w5⟩
/-- The numbers of a piece are of 64 bits. -/
def Pc64 (q : Pc) : Prop := in64 q.1.1 ∧ in64 q.1.2 ∧ in64 q.2.1 ∧ in64 q.2.2
set_option maxRecDepth 100000 in
theorem pc_cells {fuel : Nat} {cs : List Value} {x : DataW H × List MemPlace} (h : DataW.trod enc Try.prog w base spare held fuel 50 cs = some x) (hl : cs.length = 4) :
    ∃ q : Pc, cs = [.int .i64 q.1.1, .int .i64 q.1.2, .int .i64 q.2.1, .int .i64 q.2.2] ∧ Pc64 q := by
  obtain ⟨xs, n, _, _, _, hlen, hg⟩ := DataW.trod_struct Try.underlying50 h
  match cs, hl with
  | [c0, c1, c2, c3], _ =>
    match xs, hlen with
    | [y0, y1, y2], _ =>
      have g0 : DataW.trod enc Try.prog w base spare held n 24 ([c0, c1, c2, c3].take (Try.prog.cellsOf 24)) = some y0 := hg 0 _ rfl
      have g1 : DataW.trod enc Try.prog w base spare held n 27 (([c0, c1, c2, c3].drop 2).take (Try.prog.cellsOf 27)) = some y1 := hg 1 _ rfl
      have g2 : DataW.trod enc Try.prog w base spare held n 40 (([c0, c1, c2, c3].drop 3).take (Try.prog.cellsOf 40)) = some y2 := hg 2 _ rfl
      rw [show Try.prog.cellsOf 24 = 2 by kernel_rfl] at g0
      rw [show Try.prog.cellsOf 27 = 1 by kernel_rfl] at g1
      rw [show Try.prog.cellsOf 40 = 1 by kernel_rfl] at g2
      obtain ⟨a0, a1, rfl, rfl, w0, w1⟩ := span_of (c0 := c0) (c1 := c1) g0
      obtain ⟨a2, rfl, w2⟩ := int_of (c := c2) Try.underlying27 g1
      obtain ⟨a3, rfl, w3⟩ := int_of (c := c3) Try.underlying40 g2
      exact ⟨((a0, a1), a2, a3), rfl, w0, w1, w2, w3⟩
set_option maxRecDepth 100000 in
theorem pc_arg {r : Reach} {b0 : Nat} {v : Value} {d : DataW H} {p : List MemPlace} (hv : Value.okWide Try.prog w r b0 50 v) (h : DataW.Trod enc Try.prog w base spare held 50 v d p) :
    ∃ q : Pc, v = .agg #[.int .i64 q.1.1, .int .i64 q.1.2, .int .i64 q.2.1, .int .i64 q.2.2] ∧ Pc64 q := by
  obtain ⟨cs, rfl, hsz⟩ := okWide_struct Try.underlying50 hv
  rw [show Try.prog.cellsOf 50 = 4 by kernel_rfl] at hsz
  obtain ⟨fuel, hf⟩ := h
  obtain ⟨e, he, hw⟩ := pc_cells hf (by simpa [Value.cells] using hsz)
  obtain ⟨l⟩ := cs
  simp [Value.cells] at he
  subst he
  exact ⟨e, rfl, hw⟩
/-- Pieces that came in. -/
def PcsArg (w : World) (a : Option Addr) (len cap : Nat) (L : List Pc) : Prop := L.length = len ∧ PcsIn w a L ∧ (∀ q ∈ L, Pc64 q) ∧ len ≤ maxLen ∧ len ≤ cap ∧ cap ≤ maxLen ∧ (a = none → cap = 0)
set_option maxRecDepth 100000 in
theorem pcs_of {fuel : Nat} {a : Option Addr} {len cap : Nat} {x : DataW H × List MemPlace} (h : DataW.trod enc Try.prog w base spare held fuel 28 [.slice a len cap] = some x) :
    ∃ L : List Pc, PcsArg w a len cap L := by
  rcases Go.Deep.open_slice Try.underlying28 h with ⟨hcs, _⟩ | ⟨y, l, cp, m, k, D, Pl, hcs, _, hl, hm, hmm, _, hall⟩
  · simp at hcs
    obtain ⟨rfl, rfl, rfl⟩ := hcs
    exact ⟨[], rfl, .inl rfl, (fun q hq => by cases hq), by simp [maxLen], Nat.le_refl _, by simp [maxLen], fun _ => rfl⟩
  · simp at hcs
    obtain ⟨rfl, rfl, rfl⟩ := hcs
    have hlm : len ≤ m := by rw [hmm]; split <;> omega
    rw [show Try.prog.cellsOf 50 = 4 by kernel_rfl] at hall
    have hex : ∀ i, ∃ q : Pc, i < len → (w.cell? (y.add (i * 4)) = some (.int .i64 q.1.1) ∧ w.cell? (y.add (i * 4 + 1)) = some (.int .i64 q.1.2) ∧ w.cell? (y.add (i * 4 + 2)) = some (.int .i64 q.2.1) ∧ w.cell? (y.add (i * 4 + 3)) = some (.int .i64 q.2.2)) ∧ Pc64 q := fun i => by
      by_cases hi : i < len
      · obtain ⟨cs, h1, h2⟩ := hall i (by omega)
        obtain ⟨_, hlen, hcell⟩ := World.cells?_some h1
        obtain ⟨q, rfl, hq⟩ := pc_cells h2 hlen
        have e0 := hcell 0 (by omega)
        have e1 := hcell 1 (by omega)
        have e2 := hcell 2 (by omega)
        have e3 := hcell 3 (by omega)
        rw [Go.Deep.add_add] at e0 e1 e2 e3
        exact ⟨q, fun _ => ⟨⟨by simpa using e0, by simpa using e1, by simpa using e2, by simpa using e3⟩, hq⟩⟩
      · exact ⟨((0, 0), 0, 0), fun h => absurd h hi⟩
    obtain ⟨f, hf⟩ : ∃ f : Nat → Pc, ∀ i, i < len → (w.cell? (y.add (i * 4)) = some (.int .i64 (f i).1.1) ∧ w.cell? (y.add (i * 4 + 1)) = some (.int .i64 (f i).1.2) ∧ w.cell? (y.add (i * 4 + 2)) = some (.int .i64 (f i).2.1) ∧ w.cell? (y.add (i * 4 + 3)) = some (.int .i64 (f i).2.2)) ∧ Pc64 (f i) := ⟨fun i => Classical.choose (hex i), fun i hi => Classical.choose_spec (hex i) hi⟩
    have hat : ∀ j, j < len → ((List.range len).map f).getD j ((0, 0), 0, 0) = f j := fun j hj => by simp [List.getD, hj]
    refine ⟨(List.range len).map f, by simp, ?_, fun q hq => ?_, by omega, by omega, by omega, fun h => by cases h⟩
    · by_cases h0 : len = 0
      · subst h0; exact .inl rfl
      · obtain ⟨b, off, spot⟩ := y
        have hspot : spot = none := by simpa [Addr.add] using World.cell?_spot (hf 0 (by omega)).1.1
        subst hspot
        refine .inr ⟨b, off, rfl, fun j hj => ?_⟩
        have hj' : j < len := by simpa using hj
        obtain ⟨⟨g0, g1, g2, g3⟩, -⟩ := hf j hj'
        rw [Go.WideShapes.add_plain] at g0 g1 g2 g3
        rw [hat j hj']
        exact ⟨g0, g1, g2, g3⟩
    · simp at hq
      obtain ⟨j, hj, rfl⟩ := hq
      exact (hf j hj).2
end

end Go.Proofs.Ytamglmenljgbdaa
