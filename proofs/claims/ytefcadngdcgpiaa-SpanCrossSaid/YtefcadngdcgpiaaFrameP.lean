/-
  What is proved: two facts on the program as a whole that each statement's frame asks for, and what spans and days that came in give to a walk. Conditions: none.
-/
import Derived.Test.YtefcadngdcgpiaaSpD
import Derived.ProofKit
import Derived.OpenShut
import Derived.ShutString
import Derived.ChangeOld
import Derived.Stop.Joined
import Derived.Deep.SlicePairs
namespace Go.Proofs.Ytefcadngdcgpiaa
open Go Go.ChangeShapes Go.WideShapes Go.ChangeAt Go.RowKit

theorem own : ownKnob Try.prog.godebug = none := by kernel_rfl
theorem laidOut : laidOutB Try.prog = true := by kernel_rfl
theorem in64_wf {n : Int} (h : (Lit.int .i64 n).wf = true) : in64 n := by
  simp [Lit.wf, IntKind.min, IntKind.max, IntKind.signed, IntKind.bits] at h
  unfold in64
  omega
/-- Spans that came in. -/
def SpansArg (w : World) (a : Option Addr) (len cap : Nat) (L : List Sp) : Prop := L.length = len ∧ SpansIn w a L ∧ (∀ s ∈ L, in64 s.1 ∧ in64 s.2) ∧ len ≤ maxLen ∧ (a = none → cap = 0)
theorem spans_of {H : Type} {enc : TypeId × Value → H} {w : World} {base : Nat} {spare : Nat → Bool} {held : Bool} {fuel : Nat} {a : Option Addr} {len cap : Nat} {x : DataW H × List MemPlace} (h : DataW.trod enc Try.prog w base spare held fuel 22 [.slice a len cap] = some x) :
    ∃ L : List Sp, SpansArg w a len cap L := by
  rcases Go.Deep.open_slice_pairs Try.underlying22 Try.underlying39 (by kernel_rfl) rfl rfl (by kernel_rfl) (by kernel_rfl) h with ⟨hcs, _⟩ | ⟨y, l, cp, m, k, V0, V1, D0, D1, P0, P1, hcs, _, hl, hm, hmm, _, hall⟩
  · simp at hcs
    obtain ⟨rfl, rfl, rfl⟩ := hcs
    exact ⟨[], rfl, .inl rfl, (fun s hs => by cases hs), by simp [maxLen], fun _ => rfl⟩
  · simp at hcs
    obtain ⟨rfl, rfl, rfl⟩ := hcs
    have hlm : len ≤ m := by rw [hmm]; split <;> omega
    have each : ∀ i, i < len → ∃ q : Sp, V0 i = .int .i64 q.1 ∧ V1 i = .int .i64 q.2 ∧ in64 q.1 ∧ in64 q.2 := fun i hi => by
      obtain ⟨_, _, t0, t1⟩ := hall i (by omega)
      obtain ⟨y, hy, _, hy2⟩ := DataW.trod_int (t := 23) Try.underlying23 t0
      obtain ⟨z, hz, _, hz2⟩ := DataW.trod_int (t := 23) Try.underlying23 t1
      exact ⟨(y, z), by simpa using hy, by simpa using hz, in64_wf hy2, in64_wf hz2⟩
    have hex : ∀ i, ∃ q : Sp, i < len → V0 i = .int .i64 q.1 ∧ V1 i = .int .i64 q.2 ∧ in64 q.1 ∧ in64 q.2 := fun i => by
      by_cases hi : i < len
      · obtain ⟨q, hq⟩ := each i hi; exact ⟨q, fun _ => hq⟩
      · exact ⟨(0, 0), fun h => absurd h hi⟩
    obtain ⟨g, hg⟩ : ∃ g : Nat → Sp, ∀ i, i < len → V0 i = .int .i64 (g i).1 ∧ V1 i = .int .i64 (g i).2 ∧ in64 (g i).1 ∧ in64 (g i).2 := ⟨fun i => Classical.choose (hex i), fun i hi => Classical.choose_spec (hex i) hi⟩
    have hat : ∀ j, j < len → ((List.range len).map g).getD j (0, 0) = g j := fun j hj => by simp [List.getD, hj]
    refine ⟨(List.range len).map g, by simp, ?_, fun s hs => ?_, by omega, fun h => by cases h⟩
    · by_cases h0 : len = 0
      · subst h0; exact .inl rfl
      · obtain ⟨b, off, spot⟩ := y
        have hspot : spot = none := by simpa [Addr.add] using World.cell?_spot (hall 0 (by omega)).1
        subst hspot
        refine .inr ⟨b, off, rfl, fun j hj => ?_⟩
        have hj' : j < len := by simpa using hj
        obtain ⟨g0, g1, _, _⟩ := hall j (by omega)
        rw [(hg j hj').1, Go.WideShapes.add_plain] at g0
        rw [(hg j hj').2.1, Go.WideShapes.add_plain] at g1
        rw [hat j hj']
        exact ⟨g0, g1⟩
    · simp at hs
      obtain ⟨j, hj, rfl⟩ := hs
      exact ⟨(hg j hj).2.2.1, (hg j hj).2.2.2⟩
/-- What the walk is told of a slice of integers that came in. -/
def IsRow (k : IntKind) (w : World) (a : Option Addr) (len cap : Nat) (zs : List Int) : Prop :=
  (a = none ∧ len = 0 ∧ cap = 0 ∧ zs = []) ∨
  ∃ x, a = some x ∧ len ≤ cap ∧ cap ≤ maxLen ∧ zs.length = cap ∧ (∀ i, i < zs.length → w.cell? (x.add i) = some (.int k (zs.getD i 0))) ∧ ∀ n ∈ zs, (Lit.int k n).wf = true
/-- Days that came in. -/
def DaysArg (w : World) (a : Option Addr) (len : Nat) (L : List Int) : Prop := L.length = len ∧ DaysIn w a L ∧ (∀ x ∈ L, in64 x) ∧ len ≤ maxLen
theorem days_of {w : World} {a : Option Addr} {len cap : Nat} {zs : List Int} (h : IsRow .i64 w a len cap zs) : DaysArg w a len (zs.take len) := by
  rcases h with ⟨rfl, rfl, rfl, rfl⟩ | ⟨x, rfl, hl, hm, hz, hc, hw⟩
  · exact ⟨rfl, .inl rfl, (fun s hs => by cases hs), by simp [maxLen]⟩
  · refine ⟨by simp; omega, ?_, fun y hy => in64_wf (hw y (List.mem_of_mem_take hy)), by omega⟩
    by_cases h0 : len = 0
    · subst h0; exact .inl rfl
    · obtain ⟨b, off, rfl, hc'⟩ := ints_at hc (by omega)
      refine .inr ⟨b, off, rfl, fun j hj => ?_⟩
      have hj' : j < len := by simp at hj; omega
      rw [hc' j (by omega)]
      congr 2
      simp [List.getD, hj']

end Go.Proofs.Ytefcadngdcgpiaa
