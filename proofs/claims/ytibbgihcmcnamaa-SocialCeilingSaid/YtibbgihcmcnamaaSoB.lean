/-
  What is proved: the contracts of cents.Least, Greatest, Clamp, social's isPart, within, isRight, and the document's fits, part, Right. Conditions: none.
-/
import Derived.Test.YtibbgihcmcnamaaSoA
import Derived.Test.YtibbgihcmcnamaaRaJ
import Derived.Lib.MinMax
import Derived.IntWalk
import Derived.StillTailTactics
namespace Go.Proofs.Ytibbgihcmcnamaa
open Go Go.RowKit Go.Lib Go.Proofs
open Ra (fitsB fitsB_iff)
set_option linter.unusedVariables false

/-- An amount from 0 to the most. -/
def fit0 (c : Int) : Bool := decide (0 ≤ c) && decide (c ≤ 1125899906842624)
theorem fit0_iff {c : Int} : fit0 c = true ↔ 0 ≤ c ∧ c ≤ 1125899906842624 := by simp [fit0]
/-- A side's rate. -/
def partB (r : Int) : Bool := decide (0 ≤ r) && decide (r ≤ 1000000)
theorem partB_iff {c : Int} : partB c = true ↔ 0 ≤ c ∧ c ≤ 1000000 := by simp [partB]
/-- Sums are right. -/
def rightS (a b c d : Int) : Bool := fitsB a && fit0 b && fit0 c && fit0 d
theorem rightS_iff {a b c d : Int} : rightS a b c d = true ↔ (-1125899906842624 ≤ a ∧ a ≤ 1125899906842624) ∧ (0 ≤ b ∧ b ≤ 1125899906842624) ∧ (0 ≤ c ∧ c ≤ 1125899906842624) ∧ 0 ≤ d ∧ d ≤ 1125899906842624 := by
  unfold rightS
  rw [Bool.and_eq_true, Bool.and_eq_true, Bool.and_eq_true, fitsB_iff, fit0_iff, fit0_iff, fit0_iff, and_assoc, and_assoc]

/-- Four numbers in a block. -/
def C4 (w : World) (g : Nat) (a b c d : Int) : Prop := w.cell? ⟨g, 0, none⟩ = some (.int .i64 a) ∧ w.cell? ⟨g, 1, none⟩ = some (.int .i64 b) ∧ w.cell? ⟨g, 2, none⟩ = some (.int .i64 c) ∧ w.cell? ⟨g, 3, none⟩ = some (.int .i64 d)
theorem C4.lt {w : World} {g : Nat} {a b c d : Int} (h : C4 w g a b c d) : g < w.heap.size := World.block_lt_of_cell? w _ h.1
theorem C4.kp {w w' : World} {g : Nat} {a b c d : Int} (h : C4 w g a b c d) (hb : Below w.heap.size w w') : C4 w' g a b c d := by
  have hl := h.lt
  obtain ⟨h0, h1, h2, h3⟩ := h
  exact ⟨(hb.cell (p := ⟨g, 0, none⟩) hl).trans h0, (hb.cell (p := ⟨g, 1, none⟩) hl).trans h1, (hb.cell (p := ⟨g, 2, none⟩) hl).trans h2, (hb.cell (p := ⟨g, 3, none⟩) hl).trans h3⟩
theorem C4.new (w : World) (a b c d : Int) (T : TypeId) : C4 (w.alloc (.cells #[.int .i64 a, .int .i64 b, .int .i64 c, .int .i64 d] T)) w.heap.size a b c d := by
  unfold C4; refine ⟨?_, ?_, ?_, ?_⟩ <;> (rw [World.cell?_alloc_new]; rfl)
theorem C4.drew {w : World} {g : Nat} {a b c d : Int} (h : C4 w g a b c d) : C4 w.drew g a b c d := h

theorem least_any (a b : Int) (w : World) : Calls Try.prog 43 #[.int .i64 a, .int .i64 b] w fun e w' => e = .returned (.int .i64 (min a b)) ∧ w = w' := by
  go_enter Try.func43, Try.ntmps43
  go_wp2
  go_ret
  exact ⟨rfl, rfl⟩
theorem great_any (a b : Int) (w : World) : Calls Try.prog 41 #[.int .i64 a, .int .i64 b] w fun e w' => e = .returned (.int .i64 (max a b)) ∧ w = w' := by
  go_enter Try.func41, Try.ntmps41
  go_wp2
  go_ret
  exact ⟨rfl, rfl⟩
theorem clamp_any (c a b : Int) (w : World) : Calls Try.prog 34 #[.int .i64 c, .int .i64 a, .int .i64 b] w fun e w' => e = .returned (.int .i64 (max a (min c b))) ∧ w = w' := by
  have H1 := Lib.hid (least_any c b w)
  have H2 := Lib.hid (great_any a (min c b) w)
  generalize min c b = m at H1 H2 ⊢
  generalize max a m = n at H2 ⊢
  go_enter Try.func34, Try.ntmps34
  go_wp2_with fail
  refine (H1.out).mono ?_
  rintro e w1 ⟨rfl, rfl⟩
  go_wp2_with fail
  refine (H2.out).mono ?_
  rintro e w1 ⟨rfl, rfl⟩
  go_wp2
  go_ret
  exact ⟨rfl, rfl⟩
theorem clamp_q (c a b : Int) (w : World) : Calls Try.prog 34 #[.int .i64 c, .int .i64 a, .int .i64 b] w fun e w' => e = .returned (.int .i64 (max a (min c b))) ∧ w' = w :=
  (clamp_any c a b w).mono fun _ _ h => ⟨h.1, h.2.symm⟩

theorem isPart_any (r : Int) (w : World) : Calls Try.prog 33 #[.int .i64 r] w fun e w' => e = .returned (.bool (partB r)) ∧ w = w' := by
  by_cases h1 : 0 ≤ r
  · by_cases h2 : r ≤ 1000000
    · rw [partB_iff.2 ⟨h1, h2⟩]
      go_enter Try.func33, Try.ntmps33
      go_wp2
      go_ret
      exact ⟨rfl, rfl⟩
    · rw [show partB r = false by simp [partB, h2]]
      go_enter Try.func33, Try.ntmps33
      go_wp2
      go_ret
      exact ⟨rfl, rfl⟩
  · have d1 : decide (0 ≤ r) = false := decide_eq_false h1
    rw [show partB r = false by simp [partB, h1]]
    go_enter Try.func33, Try.ntmps33
    go_wp2
    go_ret
    exact ⟨rfl, rfl⟩
theorem rpartB_any (r : Int) (w : World) : Calls Try.prog 38 #[.int .i64 r] w fun e w' => e = .returned (.bool (partB r)) ∧ w = w' := by
  by_cases h1 : 0 ≤ r
  · by_cases h2 : r ≤ 1000000
    · rw [partB_iff.2 ⟨h1, h2⟩]
      go_enter Try.func38, Try.ntmps38
      go_wp2
      go_ret
      exact ⟨rfl, rfl⟩
    · rw [show partB r = false by simp [partB, h2]]
      go_enter Try.func38, Try.ntmps38
      go_wp2
      go_ret
      exact ⟨rfl, rfl⟩
  · have d1 : decide (0 ≤ r) = false := decide_eq_false h1
    rw [show partB r = false by simp [partB, h1]]
    go_enter Try.func38, Try.ntmps38
    go_wp2
    go_ret
    exact ⟨rfl, rfl⟩
theorem rfits_any (c : Int) (w : World) : Calls Try.prog 37 #[.int .i64 c] w fun e w' => e = .returned (.bool (fit0 c)) ∧ w = w' := by
  have H := Lib.hid (Ra.rfits2_any c w)
  by_cases h1 : 0 ≤ c
  · rw [show fit0 c = fitsB c by simp [fit0, fitsB, h1]; omega]
    generalize fitsB c = b at H ⊢
    go_enter Try.func37, Try.ntmps37
    go_wp2_with fail
    refine (H.out).mono ?_
    rintro e w1 ⟨rfl, rfl⟩
    go_wp2
    go_ret
    exact ⟨rfl, rfl⟩
  · have d1 : decide (0 ≤ c) = false := decide_eq_false h1
    rw [show fit0 c = false by simp [fit0, h1]]
    go_enter Try.func37, Try.ntmps37
    go_wp2
    go_ret
    exact ⟨rfl, rfl⟩

set_option maxHeartbeats 1000000 in
theorem rRight_any (a b c d : Int) (w : World) : Calls Try.prog 25 #[.agg #[.int .i64 a, .int .i64 b, .int .i64 c, .int .i64 d]] w fun e w' => e = .returned (.bool (rightS a b c d)) ∧ Below w.heap.size w w' := by
  have hB := (Below.refl w.heap.size w).alloc (Nat.le_refl _) (.cells #[.int .i64 a, .int .i64 b, .int .i64 c, .int .i64 d] 32)
  obtain ⟨c0, c1, c2, c3⟩ := C4.new w a b c d 32
  have H0 := Lib.hid (fun W => Ra.rfits2_any a W)
  have H1 := Lib.hid (fun W => rfits_any b W)
  have H2 := Lib.hid (fun W => rfits_any c W)
  have H3 := Lib.hid (fun W => rfits_any d W)
  unfold rightS
  generalize fitsB a = x0 at H0 ⊢
  generalize fit0 b = x1 at H1 ⊢
  generalize fit0 c = x2 at H2 ⊢
  generalize fit0 d = x3 at H3 ⊢
  cases x0 <;> cases x1 <;> cases x2
  all_goals
    go_enter Try.func25, Try.ntmps25
    go_wp2_with (first | (with_reducible refine (H0.out _).mono ?_; rintro e w1 ⟨rfl, rfl⟩) | (with_reducible refine (H1.out _).mono ?_; rintro e w1 ⟨rfl, rfl⟩) | (with_reducible refine (H2.out _).mono ?_; rintro e w1 ⟨rfl, rfl⟩) | (with_reducible refine (H3.out _).mono ?_; rintro e w1 ⟨rfl, rfl⟩))
    go_ret
    exact ⟨rfl, hB⟩

end Go.Proofs.Ytibbgihcmcnamaa
