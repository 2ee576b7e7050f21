/-
  What is proved: the contract of week.Parse: the week that a text says, or why there is none. Conditions: texts of at most 5000 bytes; the variable ErrRange holds an error.
-/
import Derived.Test.YtbgilplaefdhbaaDoorDkP
namespace Go.Proofs.YtbgilplaefdhbaaDoor
open Go Go.RowKit Go.Lib Go.Proofs
set_option linter.unusedVariables false
set_option linter.unusedSimpArgs false

theorem set_in {w : World} {g i : Nat} {u v : Value} (h : w.cell? ⟨g, i, none⟩ = some u) : (w.setCell ⟨g, i, none⟩ v).cell? ⟨g, i, none⟩ = some v := World.cell?_setCell_same w _ _ h
theorem set_off {w : World} {g i j : Nat} {v : Value} (h : i ≠ j) : (w.setCell ⟨g, i, none⟩ v).cell? ⟨g, j, none⟩ = w.cell? ⟨g, j, none⟩ := World.cell?_setCell_other w _ _ _ (by intro e; injection e; omega)
theorem set_far {w : World} {g h i j : Nat} {v : Value} (e : g ≠ h) : (w.setCell ⟨g, i, none⟩ v).cell? ⟨h, j, none⟩ = w.cell? ⟨h, j, none⟩ := World.cell?_setCell_other w _ _ _ (by intro e'; injection e'; omega)

/-- Seven numbers in memory. -/
def W7 (w : World) (g : Nat) (q : Nat → Int) : Prop := (∀ j, j < 7 → w.cell? ⟨g, j, none⟩ = some (.int .i64 (q j))) ∧ ∀ j, w.frozen? ⟨g, j, none⟩ = false
theorem W7.lt {w : World} {g : Nat} {q : Nat → Int} (h : W7 w g q) : g < w.heap.size := World.block_lt_of_cell? _ _ (h.1 0 (by omega))
theorem W7.below {w w' : World} {g : Nat} {q : Nat → Int} (h : W7 w g q) (hb : Below w.heap.size w w') : W7 w' g q :=
  ⟨fun j hj => stay hb (h.1 j hj), fun j => (hb.frozen (p := ⟨g, j, none⟩) h.lt).trans (h.2 j)⟩
theorem W7.far {w : World} {g h i : Nat} {q : Nat → Int} {v : Value} (hw : W7 w g q) (e : h ≠ g) : W7 (w.setCell ⟨h, i, none⟩ v) g q :=
  ⟨fun j hj => (set_far e).trans (hw.1 j hj), fun j => by rw [World.frozen?_setCell]; exact hw.2 j⟩
theorem W7.put {w : World} {g i : Nat} {q q' : Nat → Int} {v : Int} (hw : W7 w g q) (hi : i < 7) (hv : q' i = v) (ho : ∀ j, j < 7 → j ≠ i → q' j = q j) : W7 (w.setCell ⟨g, i, none⟩ (.int .i64 v)) g q' := by
  refine ⟨fun j hj => ?_, fun j => by rw [World.frozen?_setCell]; exact hw.2 j⟩
  by_cases e : j = i
  · subst e; rw [hv]; exact set_in (hw.1 j hj)
  · rw [set_off (fun e' => e e'.symm), ho j hj e]; exact hw.1 j hj
theorem W7.all {w : World} {g : Nat} {q : Nat → Int} (h : W7 w g q) : (w.cell? ⟨g, 0, none⟩ = some (.int .i64 (q 0)) ∧ w.cell? ⟨g, 1, none⟩ = some (.int .i64 (q 1)) ∧ w.cell? ⟨g, 2, none⟩ = some (.int .i64 (q 2)) ∧ w.cell? ⟨g, 3, none⟩ = some (.int .i64 (q 3)) ∧ w.cell? ⟨g, 4, none⟩ = some (.int .i64 (q 4)) ∧ w.cell? ⟨g, 5, none⟩ = some (.int .i64 (q 5)) ∧ w.cell? ⟨g, 6, none⟩ = some (.int .i64 (q 6))) ∧
    (w.frozen? ⟨g, 0, none⟩ = false ∧ w.frozen? ⟨g, 1, none⟩ = false ∧ w.frozen? ⟨g, 2, none⟩ = false ∧ w.frozen? ⟨g, 3, none⟩ = false ∧ w.frozen? ⟨g, 4, none⟩ = false ∧ w.frozen? ⟨g, 5, none⟩ = false ∧ w.frozen? ⟨g, 6, none⟩ = false) :=
  ⟨⟨h.1 0 (by omega), h.1 1 (by omega), h.1 2 (by omega), h.1 3 (by omega), h.1 4 (by omega), h.1 5 (by omega), h.1 6 (by omega)⟩, ⟨h.2 0, h.2 1, h.2 2, h.2 3, h.2 4, h.2 5, h.2 6⟩⟩
theorem W7.congr {w : World} {g : Nat} {q q' : Nat → Int} (h : W7 w g q) (e : ∀ j, j < 7 → q' j = q j) : W7 w g q' := ⟨fun j hj => by rw [e j hj]; exact h.1 j hj, h.2⟩
theorem W7.step {w : World} {g i : Nat} {p q : Nat → Int} (h : W7 w g (fun j => if j < i then p j else q j)) (hi : i < 7) : W7 (w.setCell ⟨g, i, none⟩ (.int .i64 (p i))) g (fun j => if j < i + 1 then p j else q j) :=
  h.put hi (by simp) (fun j _ hj => by
    by_cases e : j < i
    · rw [if_pos e, if_pos (by omega)]
    · rw [if_neg e, if_neg (by omega)])
theorem W7.set {w : World} {g : Nat} {q : Nat → Int} (h : W7 w g q) (p : Nat → Int) : W7 (((((((w.setCell ⟨g, 0, none⟩ (.int .i64 (p 0))).setCell ⟨g, 1, none⟩ (.int .i64 (p 1))).setCell ⟨g, 2, none⟩ (.int .i64 (p 2))).setCell ⟨g, 3, none⟩ (.int .i64 (p 3))).setCell ⟨g, 4, none⟩ (.int .i64 (p 4))).setCell ⟨g, 5, none⟩ (.int .i64 (p 5))).setCell ⟨g, 6, none⟩ (.int .i64 (p 6))) g p := by
  have s0 : W7 w g (fun j => if j < 0 then p j else q j) := h.congr (fun j _ => by rw [if_neg (by omega)])
  have s7 := ((((((s0.step (by omega)).step (by omega)).step (by omega)).step (by omega)).step (by omega)).step (by omega)).step (by omega)
  exact s7.congr (fun j hj => by rw [if_pos (by omega)])
theorem set7_below {B : Nat} {w0 w : World} {g : Nat} (hb : Below B w0 w) (hg : B ≤ g) (p : Nat → Int) : Below B w0 (((((((w.setCell ⟨g, 0, none⟩ (.int .i64 (p 0))).setCell ⟨g, 1, none⟩ (.int .i64 (p 1))).setCell ⟨g, 2, none⟩ (.int .i64 (p 2))).setCell ⟨g, 3, none⟩ (.int .i64 (p 3))).setCell ⟨g, 4, none⟩ (.int .i64 (p 4))).setCell ⟨g, 5, none⟩ (.int .i64 (p 5))).setCell ⟨g, 6, none⟩ (.int .i64 (p 6))) :=
  ((((((hb.setCell hg _).setCell hg _).setCell hg _).setCell hg _).setCell hg _).setCell hg _).setCell hg _
theorem new7 (w : World) (t : TypeId) : W7 (w.alloc (.cells #[.int .i64 0, .int .i64 0, .int .i64 0, .int .i64 0, .int .i64 0, .int .i64 0, .int .i64 0] t)) w.heap.size (fun _ => 0) := by
  refine ⟨fun j hj => ?_, fun j => by simp⟩
  rw [World.cell?_alloc_new]
  have e : j = 0 ∨ j = 1 ∨ j = 2 ∨ j = 3 ∨ j = 4 ∨ j = 5 ∨ j = 6 := by omega
  rcases e with rfl | rfl | rfl | rfl | rfl | rfl | rfl <;> rfl

/-- Texts in memory. -/
def PcIn (w : World) (b : Nat) (L : List ByteArray) : Prop := ∀ k (h : k < L.length), w.cell? ⟨b, k, none⟩ = some (.string L[k])
theorem PcIn.below {w w' : World} {b : Nat} {L : List ByteArray} (h : PcIn w b L) (hb : Below w.heap.size w w') : PcIn w' b L := fun k hk => stay hb (h k hk)
theorem PcIn.far {w : World} {b g i : Nat} {L : List ByteArray} {v : Value} (h : PcIn w b L) (e : g ≠ b) : PcIn (w.setCell ⟨g, i, none⟩ v) b L := fun k hk => (set_far e).trans (h k hk)
theorem pc_new (w : World) (L : List ByteArray) (N : Nat) (t : TypeId) : PcIn (w.alloc (.cells (Lib.cellsOf L N) t)) w.heap.size L := fun k hk => by
  rw [World.cell?_alloc_new]
  show (Lib.cellsOf L N)[k]? = _
  unfold Lib.cellsOf
  rw [List.getElem?_toArray, List.getElem?_append_left (by simpa using hk), List.getElem?_map, List.getElem?_eq_getElem hk]
  rfl

/-- What the first i fields say. -/
def cV (F : List (List UInt8)) (i j : Nat) : Int := if j < i then (if numE (F.getD j []) = 0 then (valN (F.getD j []) : Int) else 0) else 0
theorem cV_same (F : List (List UInt8)) (i : Nat) : cV F (i + 1) i = if numE (F.getD i []) = 0 then (valN (F.getD i []) : Int) else 0 := by unfold cV; rw [if_pos (by omega)]
theorem cV_other (F : List (List UInt8)) (i j : Nat) (h : j ≠ i) : cV F (i + 1) j = cV F i j := by
  unfold cV
  by_cases e : j < i
  · rw [if_pos e, if_pos (by omega)]
  · rw [if_neg e, if_neg (by omega)]
/-- What is found among the first i fields. -/
def Fnd (F : List (List UInt8)) (i : Nat) (f : Int) : Prop := (∀ k, k < i → badN (F.getD k []) = false) ∧ (f = 0 ∧ (∀ k, k < i → valN (F.getD k []) ≤ 1440) ∨ f = 2 ∧ ∃ k, k < i ∧ 1440 < valN (F.getD k []))
theorem Fnd.start (F : List (List UInt8)) : Fnd F 0 0 := ⟨fun k hk => by omega, .inl ⟨rfl, fun k hk => by omega⟩⟩
theorem Fnd.big {F : List (List UInt8)} {i : Nat} {f : Int} (h : Fnd F i f) (hb : badN (F.getD i []) = false) (hv : 1440 < valN (F.getD i [])) : Fnd F (i + 1) 2 :=
  ⟨fun k hk => by
    rcases Nat.lt_or_ge k i with e | e
    · exact h.1 k e
    · obtain rfl : k = i := by omega
      exact hb, .inr ⟨rfl, i, by omega, hv⟩⟩
theorem Fnd.fits {F : List (List UInt8)} {i : Nat} {f : Int} (h : Fnd F i f) (hb : badN (F.getD i []) = false) (hv : valN (F.getD i []) ≤ 1440) : Fnd F (i + 1) f := by
  refine ⟨fun k hk => ?_, ?_⟩
  · rcases Nat.lt_or_ge k i with e | e
    · exact h.1 k e
    · obtain rfl : k = i := by omega
      exact hb
  · rcases h.2 with ⟨h1, h2⟩ | ⟨h1, k, h2, h3⟩
    · refine .inl ⟨h1, fun k hk => ?_⟩
      rcases Nat.lt_or_ge k i with e | e
      · exact h2 k e
      · obtain rfl : k = i := by omega
        exact hv
    · exact .inr ⟨h1, k, by omega, h3⟩
theorem Fnd.end {F : List (List UInt8)} {f : Int} (h : Fnd F 7 f) (hl : F.length = 7) : wfE F = f ∧ ∀ j, j < 7 → wfV F j = if f = 0 then cV F 7 j else 0 := by
  have at' : ∀ g ∈ F, ∃ k, k < 7 ∧ F.getD k [] = g := fun g hg => by
    obtain ⟨k, hk, e⟩ := List.getElem_of_mem hg
    exact ⟨k, by omega, by rw [List.getD, List.getElem?_eq_getElem hk]; exact e⟩
  have in' : ∀ k, k < 7 → F.getD k [] ∈ F := fun k hk => by
    rw [List.getD, List.getElem?_eq_getElem (by omega)]; exact List.getElem_mem _
  have he : wfE F = f := by
    rcases wfE_cases F with ⟨-, h1 | ⟨g, hg, hb⟩⟩ | ⟨-, -, ⟨h1, g, hg, hv⟩ | ⟨h1, hv⟩⟩
    · exact absurd hl h1
    · obtain ⟨k, hk, rfl⟩ := at' g hg
      rw [h.1 k hk] at hb; cases hb
    · obtain ⟨k, hk, rfl⟩ := at' g hg
      rcases h.2 with ⟨-, h3⟩ | ⟨h3, -⟩
      · have := h3 k hk; omega
      · rw [h1, h3]
    · rcases h.2 with ⟨h3, -⟩ | ⟨-, k, hk, h4⟩
      · rw [h1, h3]
      · have := hv _ (in' k hk); omega
  refine ⟨he, fun j hj => ?_⟩
  unfold wfV cV
  rw [he]
  by_cases h0 : f = 0
  · rw [if_pos h0, if_pos h0, if_pos hj]
    rcases h.2 with ⟨-, h3⟩ | ⟨h3, -⟩
    · rw [if_pos]
      rcases numE_cases (F.getD j []) with ⟨-, h4⟩ | ⟨-, -, h4⟩ | ⟨h4, -⟩
      · rw [h.1 j hj] at h4; cases h4
      · have := h3 j hj; omega
      · exact h4
    · omega
  · rw [if_neg h0, if_neg h0]

end Go.Proofs.YtbgilplaefdhbaaDoor
