/-
  What is proved: a block of four numbers that came of an alloc, and what a store of four leaves; the contracts of social's part and room. Conditions: none.
-/
import Derived.Test.YtibbgihcmcnamaaSoC
import Derived.Test.YtibbgihcmcnamaaSoD
namespace Go.Proofs.Ytibbgihcmcnamaa
open Go Go.RowKit Go.Lib Go.Proofs
open Ra (fitsB fitsB_iff)
set_option linter.unusedVariables false

/-- A block of four cells that may be written. -/
def Rm4 (w : World) (g : Nat) : Prop := (∀ j, j < 4 → ∃ v, w.cell? ⟨g, j, none⟩ = some v) ∧ ∀ j, w.frozen? ⟨g, j, none⟩ = false
theorem Rm4.lt {w : World} {g : Nat} (h : Rm4 w g) : g < w.heap.size := by
  obtain ⟨v, hv⟩ := h.1 0 (by omega)
  exact World.block_lt_of_cell? w _ hv
theorem Rm4.below {w w' : World} {g : Nat} (h : Rm4 w g) (hb : Below w.heap.size w w') : Rm4 w' g := by
  have hl := h.lt
  refine ⟨fun j hj => ?_, fun j => (hb.frozen (p := ⟨g, j, none⟩) hl).trans (h.2 j)⟩
  obtain ⟨v, hv⟩ := h.1 j hj
  exact ⟨v, (hb.cell (p := ⟨g, j, none⟩) hl).trans hv⟩
theorem Rm4.new (w : World) (a b c d : Value) (T : TypeId) : Rm4 (w.alloc (.cells #[a, b, c, d] T)) w.heap.size := by
  refine ⟨fun j hj => ?_, fun j => ?_⟩
  · obtain rfl | rfl | rfl | rfl : j = 0 ∨ j = 1 ∨ j = 2 ∨ j = 3 := by omega
    all_goals exact ⟨_, by rw [World.cell?_alloc_new]; rfl⟩
  · simp
theorem Rm4.drew {w : World} {g : Nat} (h : Rm4 w g) : Rm4 w.drew g := h
theorem set_in {w : World} {g i : Nat} {u v : Value} (h : w.cell? ⟨g, i, none⟩ = some u) : (w.setCell ⟨g, i, none⟩ v).cell? ⟨g, i, none⟩ = some v := World.cell?_setCell_same w _ _ h
theorem set_off {w : World} {g i j : Nat} {v : Value} (h : i ≠ j) : (w.setCell ⟨g, i, none⟩ v).cell? ⟨g, j, none⟩ = w.cell? ⟨g, j, none⟩ := World.cell?_setCell_other w _ _ _ (by intro e; injection e; omega)
theorem Rm4.put {w : World} {g : Nat} (h : Rm4 w g) (i : Nat) (hi : i < 4) (v : Value) : Rm4 (w.setCell ⟨g, i, none⟩ v) g := by
  refine ⟨fun j hj => ?_, fun j => by rw [World.frozen?_setCell]; exact h.2 j⟩
  by_cases e : i = j
  · subst e
    obtain ⟨u, hu⟩ := h.1 i hi
    exact ⟨v, set_in hu⟩
  · obtain ⟨u, hu⟩ := h.1 j hj
    exact ⟨u, (set_off e).trans hu⟩
abbrev put4 (w : World) (g : Nat) (v0 v1 v2 v3 : Value) : World := (((w.setCell ⟨g, 0, none⟩ v0).setCell ⟨g, 1, none⟩ v1).setCell ⟨g, 2, none⟩ v2).setCell ⟨g, 3, none⟩ v3
theorem Rm4.all {w : World} {g : Nat} (h : Rm4 w g) : ∃ x0 x1 x2 x3, (w.cell? ⟨g, 0, none⟩ = some x0 ∧ w.cell? ⟨g, 1, none⟩ = some x1 ∧ w.cell? ⟨g, 2, none⟩ = some x2 ∧ w.cell? ⟨g, 3, none⟩ = some x3) ∧ w.frozen? ⟨g, 0, none⟩ = false ∧ w.frozen? ⟨g, 1, none⟩ = false ∧ w.frozen? ⟨g, 2, none⟩ = false ∧ w.frozen? ⟨g, 3, none⟩ = false := by
  obtain ⟨x0, h0⟩ := h.1 0 (by omega)
  obtain ⟨x1, h1⟩ := h.1 1 (by omega)
  obtain ⟨x2, h2⟩ := h.1 2 (by omega)
  obtain ⟨x3, h3⟩ := h.1 3 (by omega)
  exact ⟨x0, x1, x2, x3, ⟨h0, h1, h2, h3⟩, h.2 0, h.2 1, h.2 2, h.2 3⟩
theorem Rm4.set {w : World} {g : Nat} (h : Rm4 w g) (v0 v1 v2 v3 : Value) : (put4 w g v0 v1 v2 v3).cell? ⟨g, 0, none⟩ = some v0 ∧ (put4 w g v0 v1 v2 v3).cell? ⟨g, 1, none⟩ = some v1 ∧ (put4 w g v0 v1 v2 v3).cell? ⟨g, 2, none⟩ = some v2 ∧ (put4 w g v0 v1 v2 v3).cell? ⟨g, 3, none⟩ = some v3 := by
  obtain ⟨x0, x1, x2, x3, ⟨a0, a1, a2, a3⟩, -⟩ := h.all
  refine ⟨?_, ?_, ?_, ?_⟩
  · exact (set_off (by omega)).trans ((set_off (by omega)).trans ((set_off (by omega)).trans (set_in a0)))
  · exact (set_off (by omega)).trans ((set_off (by omega)).trans (set_in ((set_off (by omega)).trans a1)))
  · exact (set_off (by omega)).trans (set_in ((set_off (by omega)).trans ((set_off (by omega)).trans a2)))
  · exact set_in ((set_off (by omega)).trans ((set_off (by omega)).trans ((set_off (by omega)).trans a3)))
theorem Rm4.put4 {w : World} {g : Nat} (h : Rm4 w g) (v0 v1 v2 v3 : Value) : Rm4 (put4 w g v0 v1 v2 v3) g :=
  (((h.put 0 (by omega) v0).put 1 (by omega) v1).put 2 (by omega) v2).put 3 (by omega) v3
theorem put4_below {B : Nat} {w0 w : World} {g : Nat} (hb : Below B w0 w) (hg : B ≤ g) (v0 v1 v2 v3 : Value) : Below B w0 (put4 w g v0 v1 v2 v3) :=
  (((hb.setCell (p := ⟨g, 0, none⟩) hg v0).setCell (p := ⟨g, 1, none⟩) hg v1).setCell (p := ⟨g, 2, none⟩) hg v2).setCell (p := ⟨g, 3, none⟩) hg v3

/-- A scheme in a block. -/
def Sc (w : World) (g : Nat) (s : ByteArray) (x y z : Int) : Prop := w.cell? ⟨g, 0, none⟩ = some (.string s) ∧ w.cell? ⟨g, 1, none⟩ = some (.int .i64 x) ∧ w.cell? ⟨g, 2, none⟩ = some (.int .i64 y) ∧ w.cell? ⟨g, 3, none⟩ = some (.int .i64 z)
theorem Sc.lt {w : World} {g : Nat} {s : ByteArray} {x y z : Int} (h : Sc w g s x y z) : g < w.heap.size := World.block_lt_of_cell? w _ h.1
theorem Sc.kp {w w' : World} {g : Nat} {s : ByteArray} {x y z : Int} (h : Sc w g s x y z) (hb : Below w.heap.size w w') : Sc w' g s x y z := by
  have hl := h.lt
  obtain ⟨h0, h1, h2, h3⟩ := h
  exact ⟨(hb.cell (p := ⟨g, 0, none⟩) hl).trans h0, (hb.cell (p := ⟨g, 1, none⟩) hl).trans h1, (hb.cell (p := ⟨g, 2, none⟩) hl).trans h2, (hb.cell (p := ⟨g, 3, none⟩) hl).trans h3⟩
theorem Sc.new (w : World) (s : ByteArray) (x y z : Int) (T : TypeId) : Sc (w.alloc (.cells #[.string s, .int .i64 x, .int .i64 y, .int .i64 z] T)) w.heap.size s x y z := by
  unfold Sc; refine ⟨?_, ?_, ?_, ?_⟩ <;> (rw [World.cell?_alloc_new]; rfl)
/-- Kept below a bound. -/
theorem C4.kb {w w' : World} {g B : Nat} {a b c d : Int} (h : C4 w g a b c d) (hg : g < B) (hb : Below B w w') : C4 w' g a b c d := by
  obtain ⟨h0, h1, h2, h3⟩ := h
  exact ⟨(hb.cell (p := ⟨g, 0, none⟩) hg).trans h0, (hb.cell (p := ⟨g, 1, none⟩) hg).trans h1, (hb.cell (p := ⟨g, 2, none⟩) hg).trans h2, (hb.cell (p := ⟨g, 3, none⟩) hg).trans h3⟩
theorem Sc.kb {w w' : World} {g B : Nat} {s : ByteArray} {x y z : Int} (h : Sc w g s x y z) (hg : g < B) (hb : Below B w w') : Sc w' g s x y z := by
  obtain ⟨h0, h1, h2, h3⟩ := h
  exact ⟨(hb.cell (p := ⟨g, 0, none⟩) hg).trans h0, (hb.cell (p := ⟨g, 1, none⟩) hg).trans h1, (hb.cell (p := ⟨g, 2, none⟩) hg).trans h2, (hb.cell (p := ⟨g, 3, none⟩) hg).trans h3⟩

/-- A side's part of what is insured. -/
def halfV (m r : Int) : Int := (Ra.ofVE m r 1).1
theorem part_any (m r : Int) (w : World) : Calls Try.prog 35 #[.int .i64 m, .int .i64 r] w fun e w' => e = .returned (.int .i64 (halfV m r)) ∧ Below w.heap.size w w' := by
  have H := Lib.hid (fun W => Ra.of_any m r 1 W)
  unfold halfV
  generalize (Ra.ofVE m r 1).1 = v at H ⊢
  generalize (Ra.ofVE m r 1).2 = e at H
  go_enter Try.func35, Try.ntmps35
  go_wp2_with fail
  refine (H.out _).mono ?_
  rintro e w1 ⟨rfl, hb⟩
  go_wp2
  go_ret
  exact ⟨rfl, hb⟩

def ceilV (z : Int) : Int := if z = 0 then 1125899906842624 else z
/-- How much more may be insured. -/
def roomV (b z : Int) : Int := max (ceilV z - b) 0
set_option maxHeartbeats 1000000 in
theorem room_any (a b c d : Int) (s : ByteArray) (x y z : Int) (hb0 : 0 ≤ b) (hb1 : b ≤ 1125899906842624) (hz0 : 0 ≤ z) (hz1 : z ≤ 1125899906842624) (w : World) :
    Calls Try.prog 29 #[.agg #[.int .i64 a, .int .i64 b, .int .i64 c, .int .i64 d], .agg #[.string s, .int .i64 x, .int .i64 y, .int .i64 z]] w fun e w' => e = .returned (.int .i64 (roomV b z)) ∧ Below w.heap.size w w' := by
  have hB := ((Below.refl w.heap.size w).alloc (Nat.le_refl _) (.cells #[.int .i64 a, .int .i64 b, .int .i64 c, .int .i64 d] 24)).alloc (by simp) (.cells #[.string s, .int .i64 x, .int .i64 y, .int .i64 z] 27)
  by_cases h0 : z = 0
  · subst h0
    have H := Lib.hid (fun W => great_any (1125899906842624 - b) 0 W)
    rw [show roomV b 0 = max (1125899906842624 - b) 0 from rfl]
    generalize max (1125899906842624 - b) 0 = v at H ⊢
    go_enter Try.func29, Try.ntmps29
    go_wp2_with (first | (refine (H.out _).mono ?_; rintro e w1 ⟨rfl, rfl⟩))
    go_ret
    exact ⟨rfl, hB⟩
  · have H := Lib.hid (fun W => great_any (z - b) 0 W)
    rw [show roomV b z = max (z - b) 0 by unfold roomV ceilV; rw [if_neg h0]]
    have e0 : (z == 0) = false := by simpa using h0
    generalize max (z - b) 0 = v at H ⊢
    clear h0
    go_enter Try.func29, Try.ntmps29
    go_wp2_with (first | (refine (H.out _).mono ?_; rintro e w1 ⟨rfl, rfl⟩))
    go_ret
    exact ⟨rfl, hB⟩

end Go.Proofs.Ytibbgihcmcnamaa
