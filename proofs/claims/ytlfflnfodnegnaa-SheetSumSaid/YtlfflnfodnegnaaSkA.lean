/-
  What is proved: the contracts of civil's calendar, of a day's week, of two hours together; how entries lie in memory. Conditions: hours of at most 10^15 minutes.
-/
import Derived.Test.YtlfflnfodnegnaaRows
import Derived.Test.YtlfflnfodnegnaaSkMath
import Derived.WalkKit
import Derived.WalkSpells
import Derived.WalkLawsBesides
import Derived.Lib.Hide
import Derived.Below
import Derived.Laws.OwnMore
import Derived.Laws.AppendOwn
import Derived.Laws.AppendOwnNone
import Derived.Laws.MakeOwn
import Derived.Deep.QuietTactic
import Derived.BigQuiet
import Derived.IntWalk
import Derived.Lib.MinMax
namespace Go.Proofs.Ytlfflnfodnegnaa
open Go Go.RowKit Go.Proofs
set_option linter.unusedVariables false

theorem stay {W W' : World} {a : Addr} {v : Value} (hb : Below W.heap.size W W') (x : W.cell? a = some v) : W'.cell? a = some v := (hb.cell (World.block_lt_of_cell? _ _ x)).trans x
theorem in_any (n : Int) (w : World) : Calls Try.prog 34 #[.int .i64 n] w fun e w' => e = .returned (.bool (inB n)) ∧ w = w' := by
  by_cases h1 : -25567 ≤ n
  · by_cases h2 : n ≤ 84005
    · rw [inB_yes h1 h2]
      go_enter Try.func34, Try.ntmps34
      go_wp2
      go_ret
      exact ⟨rfl, rfl⟩
    · rw [inB_no (by omega)]
      go_enter Try.func34, Try.ntmps34
      go_wp2
      go_ret
      exact ⟨rfl, rfl⟩
  · rw [inB_no (by omega)]
    go_enter Try.func34, Try.ntmps34
    go_wp2
    go_ret
    exact ⟨rfl, rfl⟩
theorem wk_any (n : Int) (w : World) : Calls Try.prog 27 #[.int .i64 n] w fun e w' => e = .returned (.int .i64 (wkV n)) ∧ w = w' := by
  have H := in_any n
  unfold wkV
  cases hb : inB n with
  | true =>
    rw [hb] at H
    obtain ⟨h1, h2⟩ := inB_iff.1 hb
    have HI := Lib.hid H
    clear H hb
    simp only [if_true]
    go_enter Try.func27, Try.ntmps27
    go_wp2_with (go_at_call 34; refine (HI.out _).mono ?_; rintro e w' ⟨rfl, rfl⟩)
    go_ret
    exact ⟨rfl, rfl⟩
  | false =>
    rw [hb] at H
    have HI := Lib.hid H
    clear H hb
    simp only [Bool.false_eq_true, if_false]
    go_enter Try.func27, Try.ntmps27
    go_wp2_with (go_at_call 34; refine (HI.out _).mono ?_; rintro e w' ⟨rfl, rfl⟩)
    go_ret
    exact ⟨rfl, rfl⟩
theorem wk_no (d : Int) (h : inB d = false) (w : World) : Calls Try.prog 27 #[.int .i64 d] w fun e w' => e = .returned (.int .i64 (-1)) ∧ w = w' := by
  have := wk_any d w; unfold wkV at this; rwa [h] at this
theorem wk_at (d : Int) (h : inB d = true) (w : World) : ∃ m : Nat, m < 7 ∧ wkV d = m ∧ Calls Try.prog 27 #[.int .i64 d] w fun e w' => e = .returned (.int .i64 m) ∧ w = w' := by
  have h1 : wkV d = (d + 25567) % 7 := by unfold wkV; rw [if_pos h]
  refine ⟨(wkV d).toNat, by omega, by omega, ?_⟩
  have := wk_any d w
  rwa [show (((wkV d).toNat : Nat) : Int) = wkV d by omega]

theorem set_in {w : World} {g i : Nat} {u v : Value} (h : w.cell? ⟨g, i, none⟩ = some u) : (w.setCell ⟨g, i, none⟩ v).cell? ⟨g, i, none⟩ = some v := World.cell?_setCell_same w _ _ h
theorem set_far {w : World} {g i h j : Nat} {v : Value} (hne : g ≠ h ∨ i ≠ j) : (w.setCell ⟨h, j, none⟩ v).cell? ⟨g, i, none⟩ = w.cell? ⟨g, i, none⟩ := World.cell?_setCell_other _ _ _ _ (fun e => by injection e with e1 e2; omega)
theorem new_at (w : World) (cs : Array Value) (t : TypeId) (j : Nat) : (w.alloc (.cells cs t)).cell? ⟨w.heap.size, j, none⟩ = cs[j]? := by rw [World.cell?_alloc_new]
theorem new_unfrozen (X : World) (cs : Array Value) (t : TypeId) (j : Nat) : (X.alloc (.cells cs t)).frozen? ⟨X.heap.size, j, none⟩ = false := by simp [World.frozen?_alloc_mark]
theorem set3 {w : World} {r : Nat} {a b c x y z : Value} (h0 : w.cell? ⟨r, 0, none⟩ = some a) (h1 : w.cell? ⟨r, 1, none⟩ = some b) (h2 : w.cell? ⟨r, 2, none⟩ = some c) :
    (((w.setCell ⟨r, 0, none⟩ x).setCell ⟨r, 1, none⟩ y).setCell ⟨r, 2, none⟩ z).cell? ⟨r, 0, none⟩ = some x ∧ (((w.setCell ⟨r, 0, none⟩ x).setCell ⟨r, 1, none⟩ y).setCell ⟨r, 2, none⟩ z).cell? ⟨r, 1, none⟩ = some y ∧ (((w.setCell ⟨r, 0, none⟩ x).setCell ⟨r, 1, none⟩ y).setCell ⟨r, 2, none⟩ z).cell? ⟨r, 2, none⟩ = some z := by
  refine ⟨?_, ?_, ?_⟩
  · rw [set_far (by omega), set_far (by omega)]; exact set_in h0
  · rw [set_far (by omega)]; exact set_in ((set_far (by omega)).trans h1)
  · exact set_in ((set_far (by omega)).trans ((set_far (by omega)).trans h2))
theorem weekOf_any (d : Int) (h : inB d = true) (w : World) : Calls Try.prog 28 #[.int .i64 d] w fun e w' => e = .returned (.agg #[.int .i64 (mon d)]) ∧ Below w.heap.size w w' := by
  obtain ⟨W1, hW1⟩ : ∃ W1, W1 = w.alloc (.cells #[.int .i64 0] 59) := ⟨_, rfl⟩
  obtain ⟨m, m7, hm, HW⟩ := wk_at d h W1
  have hd := inB_iff.1 h
  have hM : mon d = d - m := by unfold mon; rw [hm]
  have c0 : W1.cell? ⟨w.heap.size, 0, none⟩ = some (.int .i64 0) := by rw [hW1, new_at]; rfl
  have f0 : W1.frozen? ⟨w.heap.size, 0, none⟩ = false := by rw [hW1, new_unfrozen]
  have hb0 : Below w.heap.size w W1 := by rw [hW1]; exact (Below.refl _ w).alloc (Nat.le_refl _) _
  have hb1 := hb0.setCell (p := ⟨w.heap.size, 0, none⟩) (Nat.le_refl _) (.int .i64 (mon d))
  have c1 := set_in (v := .int .i64 (mon d)) c0
  rw [hM] at *
  clear h hm hM
  have HI := Lib.hid HW
  clear HW
  go_enter Try.func28, Try.ntmps28
  go_wp2_with fail
  rw [← hW1]
  clear hW1
  refine (HI.out).mono ?_
  rintro e w' ⟨rfl, rfl⟩
  go_wp2
  exact bodyPost_ret (v := .agg #[.int .i64 (d - m)]) (by simp [results, Try.results28, go_sem, c1]) rfl ⟨rfl, hb1⟩

/-- Hours that are small. -/
def Sm (h : Hr) : Prop := (0 ≤ h.1 ∧ h.1 ≤ 1000000000000000) ∧ (0 ≤ h.2.1 ∧ h.2.1 ≤ 1000000000000000) ∧ (0 ≤ h.2.2 ∧ h.2.2 ≤ 1000000000000000)
set_option maxHeartbeats 1000000 in
theorem with_any (a b : Hr) (ha : Sm a) (hb : Sm b) (w : World) : Calls Try.prog 19 #[.agg #[.int .i64 a.1, .int .i64 a.2.1, .int .i64 a.2.2], .agg #[.int .i64 b.1, .int .i64 b.2.1, .int .i64 b.2.2]] w fun e w' => e = .returned (.agg #[.int .i64 (addH a b).1, .int .i64 (addH a b).2.1, .int .i64 (addH a b).2.2]) ∧ Below w.heap.size w w' := by
  obtain ⟨a0, a1, a2⟩ := a
  obtain ⟨b0, b1, b2⟩ := b
  obtain ⟨⟨p0, q0⟩, ⟨p1, q1⟩, p2, q2⟩ := ha
  obtain ⟨⟨r0, s0⟩, ⟨r1, s1⟩, r2, s2⟩ := hb
  simp only [addH] at *
  go_enter Try.func19, Try.ntmps19
  go_wp2
  obtain ⟨W2, hW2⟩ : ∃ W2, W2 = (w.alloc (.cells #[.int .i64 a0, .int .i64 a1, .int .i64 a2] 30)).alloc (.cells #[.int .i64 b0, .int .i64 b1, .int .i64 b2] 30) := ⟨_, rfl⟩
  have hz : W2.heap.size = w.heap.size + 1 + 1 := by rw [hW2]; simp
  have hb0 : Below w.heap.size w W2 := by rw [hW2]; exact ((Below.refl _ w).alloc (Nat.le_refl _) _).alloc (by simp) _
  have c := new_at W2 #[.int .i64 (a0 + b0), .int .i64 (a1 + b1), .int .i64 (a2 + b2)] 30
  rw [hz] at c
  have c0 := c 0
  have c1 := c 1
  have c2 := c 2
  rw [← hW2]
  exact bodyPost_ret (v := .agg #[.int .i64 (a0 + b0), .int .i64 (a1 + b1), .int .i64 (a2 + b2)]) (by simp [results, Try.results19, go_sem, c0, c1, c2]) rfl ⟨rfl, hb0.alloc (by omega) _⟩

end Go.Proofs.Ytlfflnfodnegnaa
