/-
  What is proved: two facts on the program as a whole that each statement's frame asks for, and what cards that came in give to a walk. Conditions: none.
-/
import Derived.Test.YtbflgckmhhmklaaTxL
import Derived.ProofKit
import Derived.OpenShut
import Derived.ShutString
import Derived.ChangeOld
import Derived.Stop.Joined
import Derived.Deep.SlicePairs
namespace Go.Proofs.Ytbflgckmhhmklaa
open Go Go.ChangeShapes Go.WideShapes Go.ChangeAt Go.RowKit
set_option linter.unusedVariables false

theorem own : ownKnob Try.prog.godebug = none := by kernel_rfl
theorem laidOut : laidOutB Try.prog = true := by kernel_rfl
/-- A card that came in: its bands lie where its slice says. -/
def CardArg (w : World) (p : Option Addr) (n : Nat) (f : Nat → Bd) : Prop := n ≤ maxLen ∧ BdIn w p n f
section
variable {H : Type} {enc : TypeId × Value → H} {w : World} {base : Nat} {spare : Nat → Bool} {held : Bool}
theorem int_of {t : TypeId} {fuel : Nat} {c : Value} {y : DataW H × List MemPlace} (hu : Try.prog.underlying t = some (.int .i64)) (h : DataW.trod enc Try.prog w base spare held fuel t [c] = some y) : ∃ a : Int, c = .int .i64 a ∧ (Lit.int .i64 a).wf = true := by
  obtain ⟨n, hn, _, hw⟩ := DataW.trod_int (t := t) hu h
  exact ⟨n, by simpa using hn, hw⟩
set_option maxRecDepth 100000 in
theorem bands_of {fuel : Nat} {c : Value} {x : DataW H × List MemPlace} (h : DataW.trod enc Try.prog w base spare held fuel 23 [c] = some x) :
    ∃ (a : Option Addr) (len cap : Nat) (f : Nat → Bd), c = .slice a len cap ∧ CardArg w a len f := by
  rcases Go.Deep.open_slice_pairs Try.underlying23 Try.underlying48 (by kernel_rfl) rfl rfl (by kernel_rfl) (by kernel_rfl) h with ⟨hcs, _⟩ | ⟨y, l, cp, m, k, V0, V1, D0, D1, P0, P1, hcs, _, hl, hm, hmm, _, hall⟩
  · simp at hcs
    exact ⟨_, _, _, fun _ => (0, 0), hcs, by decide, .inl rfl⟩
  · simp at hcs
    have hlm : l ≤ m := by rw [hmm]; split <;> omega
    have each : ∀ i, i < l → ∃ q : Bd, V0 i = .int .i64 q.1 ∧ V1 i = .int .i64 q.2 := fun i hi => by
      obtain ⟨_, _, t0, t1⟩ := hall i (by omega)
      obtain ⟨y, hy, _, _⟩ := DataW.trod_int (t := 22) Try.underlying22 t0
      obtain ⟨z, hz, _, _⟩ := DataW.trod_int (t := 46) Try.underlying46 t1
      exact ⟨(y, z), by simpa using hy, by simpa using hz⟩
    have hex : ∀ i, ∃ q : Bd, i < l → V0 i = .int .i64 q.1 ∧ V1 i = .int .i64 q.2 := fun i => by
      by_cases hi : i < l
      · obtain ⟨q, hq⟩ := each i hi; exact ⟨q, fun _ => hq⟩
      · exact ⟨(0, 0), fun h => absurd h hi⟩
    obtain ⟨g, hg⟩ : ∃ g : Nat → Bd, ∀ i, i < l → V0 i = .int .i64 (g i).1 ∧ V1 i = .int .i64 (g i).2 := ⟨fun i => Classical.choose (hex i), fun i hi => Classical.choose_spec (hex i) hi⟩
    refine ⟨some y, l, cp, g, hcs, by omega, ?_⟩
    by_cases h0 : l = 0
    · subst h0; exact .inl rfl
    · obtain ⟨b, off, spot⟩ := y
      have hspot : spot = none := by simpa [Addr.add] using World.cell?_spot (hall 0 (by omega)).1
      subst hspot
      refine .inr ⟨b, off, rfl, ?_, fun j hj => ?_⟩
      · have h9 := (hall 0 (by omega)).1
        rw [Go.WideShapes.add_plain] at h9
        exact World.block_lt_of_cell? w _ h9
      · obtain ⟨g0, g1, _, _⟩ := hall j (by omega)
        rw [(hg j hj).1, Go.WideShapes.add_plain] at g0
        rw [(hg j hj).2, Go.WideShapes.add_plain] at g1
        exact ⟨g0, g1⟩
set_option maxRecDepth 100000 in
theorem card_cells {fuel : Nat} {cs : List Value} {x : DataW H × List MemPlace} (h : DataW.trod enc Try.prog w base spare held fuel 25 cs = some x) (hl : cs.length = 3) :
    ∃ (al ex : Int) (p : Option Addr) (n cp : Nat) (f : Nat → Bd), cs = [.int .i64 al, .int .i64 ex, .slice p n cp] ∧ CardArg w p n f := by
  obtain ⟨xs, n, _, hx, hl', hlen, hg⟩ := DataW.trod_struct Try.underlying25 h
  match cs, hl with
  | [c0, c1, c2], _ =>
    match xs, hlen with
    | [y0, y1, y2], _ =>
      have g0 : DataW.trod enc Try.prog w base spare held n 22 ([c0, c1, c2].take (Try.prog.cellsOf 22)) = some y0 := hg 0 _ rfl
      have g1 : DataW.trod enc Try.prog w base spare held n 22 (([c0, c1, c2].drop 1).take (Try.prog.cellsOf 22)) = some y1 := hg 1 _ rfl
      have g2 : DataW.trod enc Try.prog w base spare held n 23 (([c0, c1, c2].drop 2).take (Try.prog.cellsOf 23)) = some y2 := hg 2 _ rfl
      rw [show Try.prog.cellsOf 22 = 1 by kernel_rfl] at g0 g1
      rw [show Try.prog.cellsOf 23 = 1 by kernel_rfl] at g2
      obtain ⟨a0, rfl, w0⟩ := int_of (c := c0) Try.underlying22 g0
      obtain ⟨a1, rfl, w1⟩ := int_of (c := c1) Try.underlying22 g1
      obtain ⟨p, k, cp, f, rfl, hf⟩ := bands_of (c := c2) g2
      exact ⟨a0, a1, p, k, cp, f, rfl, hf⟩
set_option maxRecDepth 100000 in
theorem card_arg {r : Reach} {b0 : Nat} {v : Value} {d : DataW H} {q : List MemPlace} (hv : Value.okWide Try.prog w r b0 25 v) (h : DataW.Trod enc Try.prog w base spare held 25 v d q) :
    ∃ (al ex : Int) (p : Option Addr) (n cp : Nat) (f : Nat → Bd), v = .agg #[.int .i64 al, .int .i64 ex, .slice p n cp] ∧ CardArg w p n f := by
  obtain ⟨cs, rfl, hsz⟩ := okWide_struct Try.underlying25 hv
  rw [show Try.prog.cellsOf 25 = 3 by kernel_rfl] at hsz
  obtain ⟨fuel, hf⟩ := h
  obtain ⟨al, ex, p, n, cp, f, he, hw⟩ := card_cells hf (by simpa [Value.cells] using hsz)
  obtain ⟨l⟩ := cs
  simp [Value.cells] at he
  subst he
  exact ⟨al, ex, p, n, cp, f, rfl, hw⟩
end

end Go.Proofs.Ytbflgckmhhmklaa
