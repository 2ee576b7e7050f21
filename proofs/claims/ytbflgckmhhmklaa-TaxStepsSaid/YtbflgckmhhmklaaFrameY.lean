/-
  What is proved: what slices of integers and of cards that came in give to a walk. Conditions: none.
-/
import Derived.Test.YtbflgckmhhmklaaFrameX
import Derived.Test.YtbflgckmhhmklaaTxQ
import Derived.Deep.Slices
namespace Go.Proofs.Ytbflgckmhhmklaa
open Go Go.ChangeShapes Go.WideShapes Go.ChangeAt Go.RowKit
set_option linter.unusedVariables false

/-- What the walk is told of a slice of integers that came in. -/
def IsRow (k : IntKind) (w : World) (a : Option Addr) (len cap : Nat) (zs : List Int) : Prop :=
  (a = none ∧ len = 0 ∧ cap = 0 ∧ zs = []) ∨
  ∃ x, a = some x ∧ len ≤ cap ∧ cap ≤ maxLen ∧ zs.length = cap ∧ (∀ i, i < zs.length → w.cell? (x.add i) = some (.int k (zs.getD i 0))) ∧ ∀ n ∈ zs, (Lit.int k n).wf = true
/-- The numbers lie in memory. -/
def Wts (w : World) (p : Option Addr) (n : Nat) (wt : Nat → Int) : Prop := n = 0 ∨ ∃ b o, p = some ⟨b, o, none⟩ ∧ b < w.heap.size ∧ ∀ j, j < n → w.cell? ⟨b, o + j, none⟩ = some (.int .i64 (wt j))
theorem wts_of {w : World} {a : Option Addr} {len cap : Nat} {zs : List Int} (h : IsRow .i64 w a len cap zs) :
    ∃ x : Nat → Int, Wts w a len x ∧ len ≤ maxLen := by
  rcases h with ⟨rfl, rfl, rfl, rfl⟩ | ⟨x, rfl, hl, hm, hz, hc, hw⟩
  · exact ⟨fun _ => 0, .inl rfl, by simp [maxLen]⟩
  · refine ⟨fun j => zs.getD j 0, ?_, by omega⟩
    by_cases h0 : len = 0
    · exact .inl h0
    · obtain ⟨b, off, rfl, hc'⟩ := ints_at hc (by omega)
      exact .inr ⟨b, off, rfl, World.block_lt_of_cell? w _ (hc' 0 (by omega)), fun j hj => hc' j (by omega)⟩
theorem Wts.kp {w w' : World} {p : Option Addr} {n : Nat} {x : Nat → Int} (h : Wts w p n x) (hb : Below w.heap.size w w') : Wts w' p n x := by
  rcases h with h | ⟨b, o, hp, hl, hc⟩
  · exact .inl h
  · exact .inr ⟨b, o, hp, Nat.lt_of_lt_of_le hl hb.size, fun j hj => (hb.cell (p := ⟨b, o + j, none⟩) hl).trans (hc j hj)⟩

/-- A card. -/
structure Cq where
  al : Int
  ex : Int
  p : Option Addr
  n : Nat
  cp : Nat
  f : Nat → Bd
theorem CardArg.kp {w w' : World} {p : Option Addr} {n : Nat} {f : Nat → Bd} (h : CardArg w p n f) (hb : Below w.heap.size w w') : CardArg w' p n f := ⟨h.1, h.2.kp hb⟩
/-- A card lies at a place. -/
def CqAt (w : World) (b o : Nat) (c : Cq) : Prop := w.cell? ⟨b, o, none⟩ = some (.int .i64 c.al) ∧ w.cell? ⟨b, o + 1, none⟩ = some (.int .i64 c.ex) ∧ w.cell? ⟨b, o + 2, none⟩ = some (.slice c.p c.n c.cp)
/-- Cards lie in memory. -/
def CdsIn (w : World) (a : Option Addr) (len : Nat) (C : Nat → Cq) : Prop := len = 0 ∨ ∃ b o, a = some ⟨b, o, none⟩ ∧ b < w.heap.size ∧ ∀ j, j < len → CqAt w b (o + j * 3) (C j) ∧ CardArg w (C j).p (C j).n (C j).f
theorem CdsIn.kp {w w' : World} {a : Option Addr} {len : Nat} {C : Nat → Cq} (h : CdsIn w a len C) (hb : Below w.heap.size w w') : CdsIn w' a len C := by
  rcases h with h | ⟨b, o, hp, hl, hc⟩
  · exact .inl h
  · exact .inr ⟨b, o, hp, Nat.lt_of_lt_of_le hl hb.size, fun j hj => by
      obtain ⟨⟨h0, h1, h2⟩, h3⟩ := hc j hj
      exact ⟨⟨(hb.cell (p := ⟨b, o + j * 3, none⟩) hl).trans h0, (hb.cell (p := ⟨b, o + j * 3 + 1, none⟩) hl).trans h1, (hb.cell (p := ⟨b, o + j * 3 + 2, none⟩) hl).trans h2⟩, h3.kp hb⟩⟩
section
variable {H : Type} {enc : TypeId × Value → H} {w : World} {base : Nat} {spare : Nat → Bool} {held : Bool}
set_option maxRecDepth 100000 in
theorem cards_of {fuel : Nat} {a : Option Addr} {len cap : Nat} {x : DataW H × List MemPlace} (h : DataW.trod enc Try.prog w base spare held fuel 40 [.slice a len cap] = some x) :
    ∃ C : Nat → Cq, CdsIn w a len C ∧ len ≤ maxLen := by
  rcases Go.Deep.open_slice Try.underlying40 h with ⟨hcs, _⟩ | ⟨y, l, cp, m, k, D, Pl, hcs, _, hl, hm, hmm, _, hall⟩
  · simp at hcs
    obtain ⟨rfl, rfl, rfl⟩ := hcs
    exact ⟨fun _ => ⟨0, 0, none, 0, 0, fun _ => (0, 0)⟩, .inl rfl, by simp [maxLen]⟩
  · simp at hcs
    obtain ⟨rfl, rfl, rfl⟩ := hcs
    have hlm : len ≤ m := by rw [hmm]; split <;> omega
    rw [show Try.prog.cellsOf 25 = 3 by kernel_rfl] at hall
    have hex : ∀ i, ∃ c : Cq, i < len → (w.cell? (y.add (i * 3)) = some (.int .i64 c.al) ∧ w.cell? (y.add (i * 3 + 1)) = some (.int .i64 c.ex) ∧ w.cell? (y.add (i * 3 + 2)) = some (.slice c.p c.n c.cp)) ∧ CardArg w c.p c.n c.f := fun i => by
      by_cases hi : i < len
      · obtain ⟨cs, h1, h2⟩ := hall i (by omega)
        obtain ⟨_, hlen, hcell⟩ := World.cells?_some h1
        obtain ⟨al, ex, p, n, cp, f, rfl, hq⟩ := card_cells h2 hlen
        have e0 := hcell 0 (by omega)
        have e1 := hcell 1 (by omega)
        have e2 := hcell 2 (by omega)
        rw [Go.Deep.add_add] at e0 e1 e2
        exact ⟨⟨al, ex, p, n, cp, f⟩, fun _ => ⟨⟨by simpa using e0, by simpa using e1, by simpa using e2⟩, hq⟩⟩
      · exact ⟨⟨0, 0, none, 0, 0, fun _ => (0, 0)⟩, fun h => absurd h hi⟩
    refine ⟨fun i => Classical.choose (hex i), ?_, by omega⟩
    have hf : ∀ i, i < len → (w.cell? (y.add (i * 3)) = some (.int .i64 (Classical.choose (hex i)).al) ∧ w.cell? (y.add (i * 3 + 1)) = some (.int .i64 (Classical.choose (hex i)).ex) ∧ w.cell? (y.add (i * 3 + 2)) = some (.slice (Classical.choose (hex i)).p (Classical.choose (hex i)).n (Classical.choose (hex i)).cp)) ∧ CardArg w (Classical.choose (hex i)).p (Classical.choose (hex i)).n (Classical.choose (hex i)).f := fun i hi => Classical.choose_spec (hex i) hi
    generalize hC : (fun i => Classical.choose (hex i)) = C
    have hC' : ∀ i, Classical.choose (hex i) = C i := fun i => congrFun hC i
    simp only [hC'] at hf
    by_cases h0 : len = 0
    · exact .inl h0
    · obtain ⟨b, off, spot⟩ := y
      have hspot : spot = none := by simpa [Addr.add] using World.cell?_spot (hf 0 (by omega)).1.1
      subst hspot
      refine .inr ⟨b, off, rfl, ?_, fun j hj => ?_⟩
      · have h9 := (hf 0 (by omega)).1.1
        rw [Go.WideShapes.add_plain] at h9
        exact World.block_lt_of_cell? w _ h9
      · obtain ⟨⟨g0, g1, g2⟩, g3⟩ := hf j hj
        rw [Go.WideShapes.add_plain] at g0 g1 g2
        exact ⟨⟨g0, g1, g2⟩, g3⟩
end

end Go.Proofs.Ytbflgckmhhmklaa
