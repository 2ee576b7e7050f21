/-
  What is proved: the contracts of span.isEmpty and span.Cross. Conditions: none.
-/
import Derived.Test.YtbgilplaefdhbaaDoorDkA
import Derived.Laws.StructEq
import Derived.BigRegion
import Derived.Deep.RegionHeld3
import Derived.StillTailTactics
import Derived.Lib.EndianBits
import Derived.Laws.MakeOwn
import Derived.Lib.AppendZeros
import Derived.Deep.AppendSrc
import Derived.Laws.AppendOwnNone
import Derived.Deep.AppendLies
import Derived.Maps.AppendAt
import Derived.Deep.Draws
namespace Go.Proofs.YtbgilplaefdhbaaDoor
open Go Go.RowKit Go.Proofs

abbrev Sp := Int × Int
theorem new_unfrozen (X : World) (cs : Array Value) (t : TypeId) (j : Nat) : (X.alloc (.cells cs t)).frozen? ⟨X.heap.size, j, none⟩ = false := by simp [World.frozen?_alloc_mark]

/-- Is a span empty? -/
def emB (s : Sp) : Bool := decide (s.2 ≤ s.1)
theorem isEmpty_any (a b : Int) (w : World) : Calls Tryd.prog 45 #[.agg #[.int .i64 a, .int .i64 b]] w fun e w' => e = .returned (.bool (emB (a, b))) ∧ Below w.heap.size w w' := by
  by_cases h : b ≤ a
  · rw [show emB (a, b) = true by simp [emB, h]]
    go_enter Tryd.func45, Tryd.ntmps45
    go_wp2
    go_ret
    exact ⟨rfl, (Below.refl _ _).alloc (Nat.le_refl _) _⟩
  · rw [show emB (a, b) = false by simp [emB, h]]
    go_enter Tryd.func45, Tryd.ntmps45
    go_wp2
    go_ret
    exact ⟨rfl, (Below.refl _ _).alloc (Nat.le_refl _) _⟩

/-- What two spans have in common. -/
def crossS (s t : Sp) : Sp := if min s.2 t.2 ≤ max s.1 t.1 then (0, 0) else (max s.1 t.1, min s.2 t.2)
set_option maxHeartbeats 1000000 in
set_option maxRecDepth 100000 in
theorem Cross_any (a b a' b' : Int) (w : World) : Calls Tryd.prog 31 #[.agg #[.int .i64 a, .int .i64 b], .agg #[.int .i64 a', .int .i64 b']] w fun e w' => e = .returned (.agg #[.int .i64 (crossS (a, b) (a', b')).1, .int .i64 (crossS (a, b) (a', b')).2]) ∧ Below w.heap.size w w' := by
  obtain ⟨W4, hW4⟩ : ∃ W4, W4 = (((w.alloc (.cells #[.int .i64 a, .int .i64 b] 43)).alloc (.cells #[.int .i64 a', .int .i64 b'] 43)).alloc (.cells #[.int .i64 0, .int .i64 0] 43)).alloc (.cells #[.int .i64 (max a a'), .int .i64 (min b b')] 43) := ⟨_, rfl⟩
  have hb0 : Below w.heap.size w W4 := by rw [hW4]; exact ((((Below.refl w.heap.size w).alloc (Nat.le_refl _) _).alloc (by simp) _).alloc (by simp; omega) _).alloc (by simp; omega) _
  have hz : W4.heap.size = w.heap.size + 4 := by rw [hW4]; simp
  have hz2 : ((w.alloc (.cells #[.int .i64 a, .int .i64 b] 43)).alloc (.cells #[.int .i64 a', .int .i64 b'] 43)).heap.size = w.heap.size + 1 + 1 := by simp
  have hz3 : (((w.alloc (.cells #[.int .i64 a, .int .i64 b] 43)).alloc (.cells #[.int .i64 a', .int .i64 b'] 43)).alloc (.cells #[.int .i64 0, .int .i64 0] 43)).heap.size = w.heap.size + 1 + 1 + 1 := by simp
  have q1 : W4.cell? ⟨w.heap.size + 1 + 1 + 1, 0, none⟩ = some (.int .i64 (max a a')) := by rw [hW4, ← hz3, World.cell?_alloc_new]; rfl
  have q2 : W4.cell? ⟨w.heap.size + 1 + 1 + 1, 1, none⟩ = some (.int .i64 (min b b')) := by rw [hW4, ← hz3, World.cell?_alloc_new]; rfl
  have q3 : W4.cell? ⟨w.heap.size + 1 + 1, 0, none⟩ = some (.int .i64 0) := by rw [hW4, World.cell?_alloc_lt _ _ _ (by rw [hz3]; show w.heap.size + 1 + 1 < _; omega), ← hz2, World.cell?_alloc_new]; rfl
  have q4 : W4.cell? ⟨w.heap.size + 1 + 1, 1, none⟩ = some (.int .i64 0) := by rw [hW4, World.cell?_alloc_lt _ _ _ (by rw [hz3]; show w.heap.size + 1 + 1 < _; omega), ← hz2, World.cell?_alloc_new]; rfl
  have hbx : Below (w.heap.size + 1 + 1 + 1) (((w.alloc (.cells #[.int .i64 a, .int .i64 b] 43)).alloc (.cells #[.int .i64 a', .int .i64 b'] 43)).alloc (.cells #[.int .i64 0, .int .i64 0] 43)) W4 := by rw [hW4]; exact (Below.refl _ _).alloc (by rw [hz3]; exact Nat.le_refl _) _
  have f3 : W4.frozen? ⟨w.heap.size + 1 + 1, 0, none⟩ = false := by rw [hbx.frozen (p := ⟨w.heap.size + 1 + 1, 0, none⟩) (by show w.heap.size + 1 + 1 < _; omega), ← hz2]; exact new_unfrozen _ _ _ _
  have f4 : W4.frozen? ⟨w.heap.size + 1 + 1, 1, none⟩ = false := by rw [hbx.frozen (p := ⟨w.heap.size + 1 + 1, 1, none⟩) (by show w.heap.size + 1 + 1 < _; omega), ← hz2]; exact new_unfrozen _ _ _ _
  clear hbx hz2 hz3
  cases he : emB (max a a', min b b')
  · have hc : crossS (a, b) (a', b') = (max a a', min b b') := by unfold crossS; rw [if_neg]; simpa [emB] using he
    rw [hc]
    clear hc
    go_enter Tryd.func31, Tryd.ntmps31
    go_wp2_with fail
    rw [← hW4]
    clear hW4
    refine (isEmpty_any _ _ _).mono ?_
    rintro e w2 ⟨rfl, hb2⟩
    rw [he]
    have r1 := (hb2.cell (p := ⟨w.heap.size + 1 + 1 + 1, 0, none⟩) (by show w.heap.size + 1 + 1 + 1 < _; omega)).trans q1
    have r2 := (hb2.cell (p := ⟨w.heap.size + 1 + 1 + 1, 1, none⟩) (by show w.heap.size + 1 + 1 + 1 < _; omega)).trans q2
    have r3 := (hb2.cell (p := ⟨w.heap.size + 1 + 1, 0, none⟩) (by show w.heap.size + 1 + 1 < _; omega)).trans q3
    have r4 := (hb2.cell (p := ⟨w.heap.size + 1 + 1, 1, none⟩) (by show w.heap.size + 1 + 1 < _; omega)).trans q4
    have g3 := (hb2.frozen (p := ⟨w.heap.size + 1 + 1, 0, none⟩) (by show w.heap.size + 1 + 1 < _; omega)).trans f3
    have g4 := (hb2.frozen (p := ⟨w.heap.size + 1 + 1, 1, none⟩) (by show w.heap.size + 1 + 1 < _; omega)).trans f4
    have hb3 := hb0.trans (hb2.mono (by omega))
    clear q1 q2 q3 q4 f3 f4 hb0 hb2
    have hb4 := (hb3.setCell (p := ⟨w.heap.size + 1 + 1, 0, none⟩) (by show w.heap.size ≤ w.heap.size + 1 + 1; omega) (.int .i64 (max a a'))).setCell (p := ⟨w.heap.size + 1 + 1, 1, none⟩) (by show w.heap.size ≤ w.heap.size + 1 + 1; omega) (.int .i64 (min b b'))
    have t1 : ((w2.setCell ⟨w.heap.size + 1 + 1, 0, none⟩ (.int .i64 (max a a'))).setCell ⟨w.heap.size + 1 + 1, 1, none⟩ (.int .i64 (min b b'))).cell? ⟨w.heap.size + 1 + 1, 0, none⟩ = some (.int .i64 (max a a')) := by
      rw [World.cell?_setCell_other _ _ _ _ (fun e => by injection e with _ e; omega)]
      exact World.cell?_setCell_same _ _ _ r3
    have t2 : ((w2.setCell ⟨w.heap.size + 1 + 1, 0, none⟩ (.int .i64 (max a a'))).setCell ⟨w.heap.size + 1 + 1, 1, none⟩ (.int .i64 (min b b'))).cell? ⟨w.heap.size + 1 + 1, 1, none⟩ = some (.int .i64 (min b b')) :=
      World.cell?_setCell_same _ _ _ ((World.cell?_setCell_other _ _ _ _ (fun e => by injection e with _ e; omega)).trans r4)
    go_wp2
    exact bodyPost_ret (v := .agg #[.int .i64 (max a a'), .int .i64 (min b b')]) (by simp [results, Tryd.results31, go_sem, t1, t2]) rfl ⟨rfl, hb4⟩
  · have hc : crossS (a, b) (a', b') = (0, 0) := by unfold crossS; rw [if_pos]; simpa [emB] using he
    rw [hc]
    clear hc
    go_enter Tryd.func31, Tryd.ntmps31
    go_wp2_with fail
    rw [← hW4]
    clear hW4
    refine (isEmpty_any _ _ _).mono ?_
    rintro e w2 ⟨rfl, hb2⟩
    rw [he]
    have r3 := (hb2.cell (p := ⟨w.heap.size + 1 + 1, 0, none⟩) (by show w.heap.size + 1 + 1 < _; omega)).trans q3
    have r4 := (hb2.cell (p := ⟨w.heap.size + 1 + 1, 1, none⟩) (by show w.heap.size + 1 + 1 < _; omega)).trans q4
    have g3 := (hb2.frozen (p := ⟨w.heap.size + 1 + 1, 0, none⟩) (by show w.heap.size + 1 + 1 < _; omega)).trans f3
    have g4 := (hb2.frozen (p := ⟨w.heap.size + 1 + 1, 1, none⟩) (by show w.heap.size + 1 + 1 < _; omega)).trans f4
    have hb3 := hb0.trans (hb2.mono (by omega))
    clear q1 q2 q3 q4 f3 f4 hb0 hb2
    have hb4 := (hb3.setCell (p := ⟨w.heap.size + 1 + 1, 0, none⟩) (by show w.heap.size ≤ w.heap.size + 1 + 1; omega) (.int .i64 0)).setCell (p := ⟨w.heap.size + 1 + 1, 1, none⟩) (by show w.heap.size ≤ w.heap.size + 1 + 1; omega) (.int .i64 0)
    have t1 : ((w2.setCell ⟨w.heap.size + 1 + 1, 0, none⟩ (.int .i64 0)).setCell ⟨w.heap.size + 1 + 1, 1, none⟩ (.int .i64 0)).cell? ⟨w.heap.size + 1 + 1, 0, none⟩ = some (.int .i64 0) := by
      rw [World.cell?_setCell_other _ _ _ _ (fun e => by injection e with _ e; omega)]
      exact World.cell?_setCell_same _ _ _ r3
    have t2 : ((w2.setCell ⟨w.heap.size + 1 + 1, 0, none⟩ (.int .i64 0)).setCell ⟨w.heap.size + 1 + 1, 1, none⟩ (.int .i64 0)).cell? ⟨w.heap.size + 1 + 1, 1, none⟩ = some (.int .i64 0) :=
      World.cell?_setCell_same _ _ _ ((World.cell?_setCell_other _ _ _ _ (fun e => by injection e with _ e; omega)).trans r4)
    go_wp2
    exact bodyPost_ret (v := .agg #[.int .i64 0, .int .i64 0]) (by simp [results, Tryd.results31, go_sem, t1, t2]) rfl ⟨rfl, hb4⟩

end Go.Proofs.YtbgilplaefdhbaaDoor
