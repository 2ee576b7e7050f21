/-
  What is proved: two cells in a block, and the contract of (tax.Sums).isRight.
-/
import Derived.Test.YtbflgckmhhmklaaTxI
import Derived.Deep.RegionHeld3
namespace Go.Proofs.Ytbflgckmhhmklaa
open Go Go.RowKit Go.Proofs
set_option linter.unusedVariables false

/-- Two numbers in a block. -/
def C2 (w : World) (g : Nat) (a b : Int) : Prop := w.cell? ⟨g, 0, none⟩ = some (.int .i64 a) ∧ w.cell? ⟨g, 1, none⟩ = some (.int .i64 b)
theorem C2.lt {w : World} {g : Nat} {a b : Int} (h : C2 w g a b) : g < w.heap.size := World.block_lt_of_cell? w _ h.1
theorem C2.kp {w w' : World} {g : Nat} {a b : Int} (h : C2 w g a b) (hb : Below w.heap.size w w') : C2 w' g a b := by
  have hl := h.lt
  obtain ⟨h0, h1⟩ := h
  exact ⟨(hb.cell (p := ⟨g, 0, none⟩) hl).trans h0, (hb.cell (p := ⟨g, 1, none⟩) hl).trans h1⟩
theorem C2.kb {w w' : World} {g B : Nat} {a b : Int} (h : C2 w g a b) (hg : g < B) (hb : Below B w w') : C2 w' g a b := by
  obtain ⟨h0, h1⟩ := h
  exact ⟨(hb.cell (p := ⟨g, 0, none⟩) hg).trans h0, (hb.cell (p := ⟨g, 1, none⟩) hg).trans h1⟩
theorem C2.new (w : World) (a b : Int) (T : TypeId) : C2 (w.alloc (.cells #[.int .i64 a, .int .i64 b] T)) w.heap.size a b := by
  unfold C2; refine ⟨?_, ?_⟩ <;> (rw [World.cell?_alloc_new]; rfl)
/-- A block of two cells that may be written. -/
def Rm2 (w : World) (g : Nat) : Prop := (∀ j, j < 2 → ∃ v, w.cell? ⟨g, j, none⟩ = some v) ∧ ∀ j, w.frozen? ⟨g, j, none⟩ = false
theorem Rm2.lt {w : World} {g : Nat} (h : Rm2 w g) : g < w.heap.size := by
  obtain ⟨v, hv⟩ := h.1 0 (by omega)
  exact World.block_lt_of_cell? w _ hv
theorem Rm2.below {w w' : World} {g : Nat} (h : Rm2 w g) (hb : Below w.heap.size w w') : Rm2 w' g := by
  have hl := h.lt
  refine ⟨fun j hj => ?_, fun j => (hb.frozen (p := ⟨g, j, none⟩) hl).trans (h.2 j)⟩
  obtain ⟨v, hv⟩ := h.1 j hj
  exact ⟨v, (hb.cell (p := ⟨g, j, none⟩) hl).trans hv⟩
theorem Rm2.kb {w w' : World} {g B : Nat} (h : Rm2 w g) (hg : g < B) (hb : Below B w w') : Rm2 w' g := by
  refine ⟨fun j hj => ?_, fun j => (hb.frozen (p := ⟨g, j, none⟩) hg).trans (h.2 j)⟩
  obtain ⟨v, hv⟩ := h.1 j hj
  exact ⟨v, (hb.cell (p := ⟨g, j, none⟩) hg).trans hv⟩
theorem Rm2.new (w : World) (a b : Value) (T : TypeId) : Rm2 (w.alloc (.cells #[a, b] T)) w.heap.size := by
  refine ⟨fun j hj => ?_, fun j => ?_⟩
  · obtain rfl | rfl : j = 0 ∨ j = 1 := by omega
    all_goals exact ⟨_, by rw [World.cell?_alloc_new]; rfl⟩
  · simp
theorem set_in {w : World} {g i : Nat} {u v : Value} (h : w.cell? ⟨g, i, none⟩ = some u) : (w.setCell ⟨g, i, none⟩ v).cell? ⟨g, i, none⟩ = some v := World.cell?_setCell_same w _ _ h
theorem set_off {w : World} {g i j : Nat} {v : Value} (h : i ≠ j) : (w.setCell ⟨g, i, none⟩ v).cell? ⟨g, j, none⟩ = w.cell? ⟨g, j, none⟩ := World.cell?_setCell_other w _ _ _ (by intro e; injection e; omega)
theorem Rm2.all {w : World} {g : Nat} (h : Rm2 w g) : ∃ x0 x1, (w.cell? ⟨g, 0, none⟩ = some x0 ∧ w.cell? ⟨g, 1, none⟩ = some x1) ∧ w.frozen? ⟨g, 0, none⟩ = false ∧ w.frozen? ⟨g, 1, none⟩ = false := by
  obtain ⟨x0, h0⟩ := h.1 0 (by omega)
  obtain ⟨x1, h1⟩ := h.1 1 (by omega)
  exact ⟨x0, x1, ⟨h0, h1⟩, h.2 0, h.2 1⟩
theorem Rm2.c2 {w : World} {g : Nat} (h : Rm2 w g) (a b : Int) : C2 ((w.setCell ⟨g, 0, none⟩ (.int .i64 a)).setCell ⟨g, 1, none⟩ (.int .i64 b)) g a b := by
  obtain ⟨x0, x1, ⟨a0, a1⟩, -⟩ := h.all
  exact ⟨(set_off (by omega)).trans (set_in a0), set_in ((set_off (by omega)).trans a1)⟩
theorem Rm2.put {w : World} {g : Nat} (h : Rm2 w g) (i : Nat) (hi : i < 2) (v : Value) : Rm2 (w.setCell ⟨g, i, none⟩ v) g := by
  refine ⟨fun j hj => ?_, fun j => by rw [World.frozen?_setCell]; exact h.2 j⟩
  by_cases e : i = j
  · subst e
    obtain ⟨u, hu⟩ := h.1 i hi
    exact ⟨v, set_in hu⟩
  · obtain ⟨u, hu⟩ := h.1 j hj
    exact ⟨u, (set_off e).trans hu⟩
theorem put2_below {B : Nat} {w0 w : World} {g : Nat} (hb : Below B w0 w) (hg : B ≤ g) (v0 v1 : Value) : Below B w0 ((w.setCell ⟨g, 0, none⟩ v0).setCell ⟨g, 1, none⟩ v1) :=
  (hb.setCell (p := ⟨g, 0, none⟩) hg v0).setCell (p := ⟨g, 1, none⟩) hg v1
theorem s_call {W0 w w' : World} (hb : Below w.heap.size w w') (h : Below W0.heap.size W0 w) : Below W0.heap.size W0 w' := h.trans (hb.mono h.size)

/-- Sums are right. -/
def rgtB (a b : Int) : Bool := fitsB a && fitsB b
theorem ways2 (p q : Bool) : (p = false ∧ (p && q) = false) ∨ (p = true ∧ q = false ∧ (p && q) = false) ∨ (p = true ∧ q = true ∧ (p && q) = true) := by
  cases p <;> cases q <;> simp

set_option maxHeartbeats 4000000 in
theorem isRight_any (a b : Int) (w : World) : Calls Try.prog 18 #[.agg #[.int .i64 a, .int .i64 b]] w fun e w' => e = .returned (.bool (rgtB a b)) ∧ Below w.heap.size w w' := by
  have HA := Lib.hid (fun W => within_any a W)
  have HB := Lib.hid (fun W => within_any b W)
  unfold rgtB
  rw [← fitsB_eq a, ← fitsB_eq b]
  generalize min (max a (-1125899906842624)) 1125899906842624 = x0 at HA ⊢
  generalize min (max b (-1125899906842624)) 1125899906842624 = x1 at HB ⊢
  have hB := (Below.refl w.heap.size w).alloc (Nat.le_refl _) (.cells #[.int .i64 a, .int .i64 b] 32)
  have h4 := C2.new w a b 32
  generalize hg : w.heap.size = g at hB h4 ⊢
  rcases ways2 (a == x0) (b == x1) with ⟨e0, er⟩ | ⟨e0, e1, er⟩ | ⟨e0, e1, er⟩
  all_goals
    rw [er]
    clear er
    go_enter Try.func18, Try.ntmps18
    go_upto_region 1 with fail
    clear hg
    generalize w.alloc (.cells #[.int .i64 a, .int .i64 b] 32) = W0 at hB h4 ⊢
    have KP : Hid (∀ w', Below W0.heap.size W0 w' → (w'.cell? ⟨g, 0, none⟩ = some (.int .i64 a) ∧ w'.cell? ⟨g, 1, none⟩ = some (.int .i64 b)) ∧ Below W0.heap.size W0 w') := Lib.hid (fun w' h => ⟨h4.kp h, h⟩)
    have hl := h4.lt
    clear h4
    go_region_held3 (fun w' => (w'.cell? ⟨g, 0, none⟩ = some (.int .i64 a) ∧ w'.cell? ⟨g, 1, none⟩ = some (.int .i64 b)) ∧ Below W0.heap.size W0 w')
      (first | exact KP.out _ (Below.refl _ _).drew | exact KP.out _ (by assumption))
      (first | (go_at_call 24; (with_reducible refine (HA.out _).mono ?_); rintro e w5 ⟨rfl, rfl⟩) | (go_at_call 24; (with_reducible refine (HB.out _).mono ?_); rintro e w5 ⟨rfl, rfl⟩))
    rename_i hHeld
    have hk6 := hHeld.2
    clear hHeld
    go_wp2
    go_ret
    exact ⟨rfl, hB.trans (hk6.mono (Nat.le_of_lt hl))⟩

end Go.Proofs.Ytbflgckmhhmklaa
