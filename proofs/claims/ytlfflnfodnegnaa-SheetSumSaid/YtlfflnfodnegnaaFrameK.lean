/-
  What is proved: two facts on the program as a whole that each statement's frame asks for, and what entries that came in give to a walk. Conditions: none.
-/
import Derived.Test.YtlfflnfodnegnaaSkD
import Derived.ProofKit
import Derived.OpenShut
import Derived.ShutString
import Derived.ChangeOld
import Derived.Stop.Joined
import Derived.Deep.Slices
import Derived.ChangeSame
namespace Go.Proofs.Ytlfflnfodnegnaa
open Go Go.ChangeShapes Go.WideShapes Go.ChangeAt Go.RowKit
set_option linter.unusedVariables false

theorem own : ownKnob Try.prog.godebug = none := by kernel_rfl
def in64 (n : Int) : Prop := -9223372036854775808 ≤ n ∧ n ≤ 9223372036854775807
theorem in64_wf {n : Int} (h : (Lit.int .i64 n).wf = true) : in64 n := by
  simp [Lit.wf, IntKind.min, IntKind.max, IntKind.signed, IntKind.bits] at h
  unfold in64
  omega
/-- Entries that came in. -/
def EntsArg (w : World) (a : Option Addr) (len cap : Nat) (f : Nat → En) : Prop := EntsIn w a len f ∧ (∀ j, j < len → in64 (f j).1 ∧ in64 (f j).2.1 ∧ in64 (f j).2.2) ∧ len ≤ maxLen
theorem ent_cells {H : Type} {enc : TypeId × Value → H} {w : World} {base : Nat} {spare : Nat → Bool} {held : Bool} {fuel : Nat} {cs : List Value} {x : DataW H × List MemPlace} (h : DataW.trod enc Try.prog w base spare held fuel 46 cs = some x) (hl : cs.length = 3) :
    ∃ e : En, cs = [.int .i64 e.1, .int .i64 e.2.1, .int .i64 e.2.2] ∧ in64 e.1 ∧ in64 e.2.1 ∧ in64 e.2.2 := by
  obtain ⟨xs, n, _, _, _, hlen, hg⟩ := DataW.trod_struct Try.underlying46 h
  match cs, hl with
  | [c0, c1, c2], _ =>
    match xs, hlen with
    | [y0, y1, y2], _ =>
      have g0 : DataW.trod enc Try.prog w base spare held n 25 ([c0, c1, c2].take (Try.prog.cellsOf 25)) = some y0 := hg 0 _ rfl
      have g1 : DataW.trod enc Try.prog w base spare held n 3 (([c0, c1, c2].drop 1).take (Try.prog.cellsOf 3)) = some y1 := hg 1 _ rfl
      have g2 : DataW.trod enc Try.prog w base spare held n 3 (([c0, c1, c2].drop 2).take (Try.prog.cellsOf 3)) = some y2 := hg 2 _ rfl
      rw [show Try.prog.cellsOf 25 = 1 by kernel_rfl] at g0
      rw [show Try.prog.cellsOf 3 = 1 by kernel_rfl] at g1 g2
      obtain ⟨a, ha, _, wa⟩ := DataW.trod_int (t := 25) Try.underlying25 g0
      obtain ⟨b, hb, _, wb⟩ := DataW.trod_int (t := 3) Try.underlying3 g1
      obtain ⟨c, hc, _, wc⟩ := DataW.trod_int (t := 3) Try.underlying3 g2
      simp at ha hb hc
      subst ha hb hc
      exact ⟨(a, b, c), rfl, in64_wf wa, in64_wf wb, in64_wf wc⟩
theorem ent_arg {H : Type} {enc : TypeId × Value → H} {w : World} {base : Nat} {spare : Nat → Bool} {held : Bool} {r : Reach} {b0 : Nat} {v : Value} {d : DataW H} {p : List MemPlace} (hv : Value.okWide Try.prog w r b0 46 v) (h : DataW.Trod enc Try.prog w base spare held 46 v d p) :
    ∃ e : En, v = .agg #[.int .i64 e.1, .int .i64 e.2.1, .int .i64 e.2.2] ∧ in64 e.1 ∧ in64 e.2.1 ∧ in64 e.2.2 := by
  obtain ⟨cs, rfl, hsz⟩ := okWide_struct Try.underlying46 hv
  rw [show Try.prog.cellsOf 46 = 3 by kernel_rfl] at hsz
  obtain ⟨fuel, hf⟩ := h
  obtain ⟨e, he, hw⟩ := ent_cells hf (by simpa [Value.cells] using hsz)
  obtain ⟨l⟩ := cs
  simp [Value.cells] at he
  subst he
  exact ⟨e, rfl, hw⟩
theorem ents_of {H : Type} {enc : TypeId × Value → H} {w : World} {base : Nat} {spare : Nat → Bool} {held : Bool} {fuel : Nat} {a : Option Addr} {len cap : Nat} {x : DataW H × List MemPlace} (h : DataW.trod enc Try.prog w base spare held fuel 22 [.slice a len cap] = some x) :
    ∃ f : Nat → En, EntsArg w a len cap f := by
  rcases Go.Deep.open_slice Try.underlying22 h with ⟨hcs, _⟩ | ⟨y, l, cp, m, k, D, Pl, hcs, _, hl, hm, hmm, _, hall⟩
  · simp at hcs
    obtain ⟨rfl, rfl, rfl⟩ := hcs
    exact ⟨fun _ => (0, 0, 0), .inl rfl, fun j hj => absurd hj (by omega), by simp [maxLen]⟩
  · simp at hcs
    obtain ⟨rfl, rfl, rfl⟩ := hcs
    have hlm : len ≤ m := by rw [hmm]; split <;> omega
    rw [show Try.prog.cellsOf 46 = 3 by kernel_rfl] at hall
    have hex : ∀ i, ∃ e : En, i < len → (w.cell? (y.add (i * 3)) = some (.int .i64 e.1) ∧ w.cell? (y.add (i * 3 + 1)) = some (.int .i64 e.2.1) ∧ w.cell? (y.add (i * 3 + 2)) = some (.int .i64 e.2.2)) ∧ in64 e.1 ∧ in64 e.2.1 ∧ in64 e.2.2 := fun i => by
      by_cases hi : i < len
      · obtain ⟨cs, h1, h2⟩ := hall i (by omega)
        obtain ⟨_, hlen, hcell⟩ := World.cells?_some h1
        obtain ⟨e, rfl, he⟩ := ent_cells h2 hlen
        have e0 := hcell 0 (by omega)
        have e1 := hcell 1 (by omega)
        have e2 := hcell 2 (by omega)
        rw [Go.Deep.add_add] at e0 e1 e2
        exact ⟨e, fun _ => ⟨⟨by simpa using e0, by simpa using e1, by simpa using e2⟩, he⟩⟩
      · exact ⟨(0, 0, 0), fun h => absurd h hi⟩
    obtain ⟨f, hf⟩ : ∃ f : Nat → En, ∀ i, i < len → (w.cell? (y.add (i * 3)) = some (.int .i64 (f i).1) ∧ w.cell? (y.add (i * 3 + 1)) = some (.int .i64 (f i).2.1) ∧ w.cell? (y.add (i * 3 + 2)) = some (.int .i64 (f i).2.2)) ∧ in64 (f i).1 ∧ in64 (f i).2.1 ∧ in64 (f i).2.2 := ⟨fun i => Classical.choose (hex i), fun i hi => Classical.choose_spec (hex i) hi⟩
    refine ⟨f, ?_, fun j hj => (hf j hj).2, by omega⟩
    by_cases h0 : len = 0
    · exact .inl h0
    · obtain ⟨b, off, spot⟩ := y
      have hspot : spot = none := by simpa [Addr.add] using World.cell?_spot (hf 0 (by omega)).1.1
      subst hspot
      refine .inr ⟨b, off, rfl, fun j hj => ?_⟩
      obtain ⟨⟨g0, g1, g2⟩, -⟩ := hf j hj
      rw [Go.WideShapes.add_plain] at g0 g1 g2
      exact ⟨g0, g1, g2⟩

end Go.Proofs.Ytlfflnfodnegnaa
