/-
  What is proved: the contracts of span.Of, span.together, and Union, Meet and Minus of sets. Conditions: at most 10000 spans each, of 64 bits, which lie in memory as the contract says.
-/
import Derived.Test.YtamglmenljgbdaaSqD
namespace Go.Proofs.Ytamglmenljgbdaa.Sp
open Go Go.RowKit Go.Proofs

theorem ofKeep_any (a b : Bool) (w : World) : Calls Try.prog 42 #[.bool a, .bool b] w fun e w' => e = .returned (.bool a) ∧ w = w' := by
  go_enter Try.func42, Try.ntmps42
  go_wp2
  go_ret
  exact ⟨rfl, rfl⟩
theorem unionKeep_any (a b : Bool) (w : World) : Calls Try.prog 50 #[.bool a, .bool b] w fun e w' => e = .returned (.bool (a || b)) ∧ w = w' := by
  cases a
  all_goals
    go_enter Try.func50, Try.ntmps50
    go_wp2
    go_ret
    exact ⟨rfl, rfl⟩
theorem meetKeep_any (a b : Bool) (w : World) : Calls Try.prog 67 #[.bool a, .bool b] w fun e w' => e = .returned (.bool (a && b)) ∧ w = w' := by
  cases a
  all_goals
    go_enter Try.func67, Try.ntmps67
    go_wp2
    go_ret
    exact ⟨rfl, rfl⟩
theorem minusKeep_any (a b : Bool) (w : World) : Calls Try.prog 66 #[.bool a, .bool b] w fun e w' => e = .returned (.bool (a && !b)) ∧ w = w' := by
  cases a <;> cases b
  all_goals
    go_enter Try.func66, Try.ntmps66
    go_wp2
    go_ret
    exact ⟨rfl, rfl⟩

theorem endsL_in64 {L : List Sp} (h : ∀ s ∈ L, in64 s.1 ∧ in64 s.2) : ∀ e ∈ endsL L, in64 e.1 := fun e he => by
  obtain ⟨s, hs, h1 | h1⟩ := endsL_mem he
  · rw [h1]; exact (h s hs).1
  · rw [h1]; exact (h s hs).2
theorem endsL_bd : ∀ {L : List Sp}, ∀ e ∈ endsL L, -1 ≤ e.2.1 ∧ e.2.1 ≤ 1 ∧ e.2.2 = 0
  | [], e, h => by cases h
  | s :: r, e, h => by
    unfold endsL at h
    rcases List.mem_append.1 h with h | h
    · split at h
      · cases h
      · simp at h
        rcases h with rfl | rfl <;> simp
    · exact endsL_bd e h
theorem many_nil (d : Int) : hasB [] d = false := by simp [hasB, many]

set_option maxHeartbeats 1000000 in
set_option maxRecDepth 100000 in
theorem Of_any (p : Option Addr) (c : Nat) (L : List Sp) (w : World) (hn : L.length ≤ 10000) (h64 : ∀ s ∈ L, in64 s.1 ∧ in64 s.2) (h : SpansIn w p L) :
    Calls Try.prog 23 #[.slice p L.length c] w (SetOwn w.heap.size (2 * L.length) (hasB L) w) := by
  have hb0 := (Below.refl w.heap.size w).alloc (Nat.le_refl _) (.cells #[.slice none 0 0] 58)
  have hz0 : (w.alloc (.cells #[.slice none 0 0] 58)).heap.size = w.heap.size + 1 := by simp
  have HE := Lib.hid (leftEnds_any p c L (w.alloc (.cells #[.slice none 0 0] 58)) (by omega) (h.below hb0 (Nat.le_refl _)))
  have hlen := endsL_len L
  have x0 : (w.alloc (.cells #[.slice none 0 0] 58)).cell? ⟨w.heap.size, 0, none⟩ = some (.slice none 0 0) := by rw [World.cell?_alloc_new]; rfl
  have f0 : (w.alloc (.cells #[.slice none 0 0] 58)).frozen? ⟨w.heap.size, 0, none⟩ = false := by simp [World.frozen?_alloc_mark]
  have H64 := Lib.hid h64
  clear h h64
  go_enter Try.func23, Try.ntmps23
  go_wp2_with fail
  refine (HE.out).mono ?_
  rintro e w1 ⟨v, rfl, ho, hb1⟩
  have hz1 := hb1.size
  have x1 := (hb1.cell (p := ⟨w.heap.size, 0, none⟩) (by show w.heap.size < _; omega)).trans x0
  have f1 := (hb1.frozen (p := ⟨w.heap.size, 0, none⟩) (by show w.heap.size < _; omega)).trans f0
  have hbb := hb0.trans (hb1.mono (by omega))
  have HW := Lib.hid (walk_any (w.alloc (.cells #[.slice none 0 0] 58)).heap.size 42 (fun a _ => a) v (endsL L) L [] w1 (by simp [endsR]) (by omega) rfl (endsL_in64 H64.out) (fun e he => by have := endsL_bd e he; omega) ho hz1 (enters_of Try.func42 (by kernel_rfl) rfl) ofKeep_any)
  clear HE hb0 hb1 x0 f0 ho
  go_wp2_with fail
  refine (HW.out).mono ?_
  rintro e w2 ⟨K, q, cq, rfl, hK, hM, h64, hKl, hcq, hqb, hsp, hb2⟩
  have x2 := (hb2.cell (p := ⟨w.heap.size, 0, none⟩) (by show w.heap.size < _; omega)).trans x1
  have f2 := (hb2.frozen (p := ⟨w.heap.size, 0, none⟩) (by show w.heap.size < _; omega)).trans f1
  have hb3 := (hbb.trans (hb2.mono (by omega))).setCell (p := ⟨w.heap.size, 0, none⟩) (Nat.le_refl _) (.slice q K.length cq)
  have hsp3 := hsp.far ⟨w.heap.size, 0, none⟩ (.slice q K.length cq) (fun a ha => by have := (hqb a ha).1; show w.heap.size ≠ a.block; omega)
  have x3 : (w2.setCell ⟨w.heap.size, 0, none⟩ (.slice q K.length cq)).cell? ⟨w.heap.size, 0, none⟩ = some (.slice q K.length cq) := World.cell?_setCell_same _ _ _ x2
  have HR : Hid (Canon K ∧ (∀ d, Mem K d ↔ hasB L d = true) ∧ (∀ s ∈ K, in64 s.1 ∧ in64 s.2) ∧ K.length ≤ 2 * L.length ∧ K.length ≤ cq ∧ (∀ a, q = some a → w.heap.size ≤ a.block ∧ a.spot = none)) := Lib.hid ⟨hK, hM, h64, by omega, hcq, fun a ha => ⟨by have := (hqb a ha).1; omega, (hqb a ha).2⟩⟩
  have HS := Lib.hid hsp3
  clear hK hM h64 hKl hcq hqb hsp hb2 hbb HW hsp3 x1 f1
  go_wp2
  refine bodyPost_ret (v := .agg #[.slice q K.length cq]) (by simp [results, Try.results23, go_sem, x3]) rfl ?_
  obtain ⟨r1, r2, r3, r4, r5, r6⟩ := HR.out
  exact ⟨K, q, cq, rfl, r1, r2, r3, r4, r5, r6, HS.out, hb3⟩

end Go.Proofs.Ytamglmenljgbdaa.Sp
