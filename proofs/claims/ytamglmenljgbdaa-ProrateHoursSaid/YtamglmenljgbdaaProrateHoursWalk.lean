/-
  What is proved: the walk of the statement ProrateHours: the call returns true. Conditions: what came in is as the frame says.
-/
import Derived.Test.YtamglmenljgbdaaPrH
import Derived.Test.YtamglmenljgbdaaPrMa
import Derived.Test.YtamglmenljgbdaaFrameR
namespace Go.Proofs.Ytamglmenljgbdaa
open Go Go.RowKit Go.Proofs
set_option linter.unusedVariables false

set_option maxHeartbeats 4000000 in
set_option maxRecDepth 100000 in
theorem walkProrateHours (y m k : Int) (w : World) (hy : (Lit.int .i64 y).wf = true) (hm : (Lit.int .i64 m).wf = true) (hk : (Lit.int .i64 k).wf = true) :
    Calls Try.prog 10 #[.int .i64 y, .int .i64 m, .int .i64 k] w fun e w' => e = .returned (.bool true) ∧ Below w.heap.size w w' := by
  have HW := Lib.hid (awake_any w)
  clear hy hm hk
  by_cases hbad : y < 0 ∨ 1099511627776 < y ∨ m ≤ 0 ∨ 10080 < m ∨ k < m ∨ 10080 < k
  · have hb : y < 0 ∨ (¬ y < 0 ∧ 1099511627776 < y) ∨ (¬ y < 0 ∧ ¬ 1099511627776 < y ∧ m ≤ 0) ∨ (¬ y < 0 ∧ ¬ 1099511627776 < y ∧ ¬ m ≤ 0 ∧ 10080 < m) ∨ (¬ y < 0 ∧ ¬ 1099511627776 < y ∧ ¬ m ≤ 0 ∧ ¬ 10080 < m ∧ k < m) ∨ (¬ y < 0 ∧ ¬ 1099511627776 < y ∧ ¬ m ≤ 0 ∧ ¬ 10080 < m ∧ ¬ k < m ∧ 10080 < k) := by omega
    clear hbad
    rcases hb with h | ⟨h1, h⟩ | ⟨h1, h2, h⟩ | ⟨h1, h2, h3, h⟩ | ⟨h1, h2, h3, h4, h⟩ | ⟨h1, h2, h3, h4, h5, h⟩
    all_goals
      go_enter Try.func10, Try.ntmps10
      go_wp2_with fail
      refine (HW.out).mono ?_
      rintro e' wa ⟨rfl, hba⟩
      go_wp2
      go_ret
      exact ⟨rfl, hba⟩
  obtain ⟨e1, e2, e3, l1, l2, l3, l4, l5, l6⟩ := hours_facts (y := y) (m := m) (k := k) (by omega) (by omega) (by omega) (by omega) (by omega)
  have H1 := Lib.hid (fun W => Hourly_any y m W)
  have H2 := Lib.hid (fun W => Hourly_any y k W)
  have H3 := Lib.hid (fun W => Hourly_any (-y) m W)
  rw [e1] at H1
  rw [e2] at H2
  rw [e3] at H3
  clear e1 e2 e3
  dsimp only at H1 H2 H3
  generalize Ra.rnd 1 (52 * m).toNat (y * 60) = a at *
  generalize Ra.rnd 1 (52 * k).toNat (y * 60) = b at *
  obtain ⟨M, hM⟩ : ∃ M, M = a * 52 * m := ⟨_, rfl⟩
  rw [← hM] at l5 l6
  have p1 : ¬ y < 0 := by omega
  have p2 : ¬ 1099511627776 < y := by omega
  have p3 : ¬ m ≤ 0 := by omega
  have p4 : ¬ 10080 < m := by omega
  have p5 : ¬ k < m := by omega
  have p6 : ¬ 10080 < k := by omega
  have n1 : RowKit.wrap64 (a * 52 * m) = M := by rw [← hM]; exact wr64 (by unfold in64; omega)
  have n2 : RowKit.wrap64 (M - 60 * y) = M - 60 * y := wr64 (by unfold in64; omega)
  have n3 : RowKit.wrap64 (2 * (M - 60 * y)) = 2 * (M - 60 * y) := wr64 (by unfold in64; omega)
  have q1 : decide (a < b) = false := decide_eq_false (by omega)
  have q2 : (-a != -a) = false := by simp
  have q3 : decide (2 * (M - 60 * y) ≤ 52 * m) = true := decide_eq_true (by omega)
  have q4 : decide (-(52 * m) ≤ 2 * (M - 60 * y)) = true := decide_eq_true (by omega)
  have q5 : decide (-52 * m ≤ 2 * (M - 60 * y)) = true := decide_eq_true (by omega)
  clear hbad hM l5 l6
  go_enter Try.func10, Try.ntmps10
  go_wp2_with fail
  refine (HW.out).mono ?_
  rintro e wa ⟨rfl, hba⟩
  go_wp2_with fail
  refine (H1.out _).mono ?_
  rintro e w1 ⟨rfl, hb1⟩
  have hk1 := hba.trans (hb1.mono hba.size)
  go_wp2_with fail
  refine (H2.out _).mono ?_
  rintro e w2 ⟨rfl, hb2⟩
  have hk2 := hk1.trans (hb2.mono hk1.size)
  go_wp2_with fail
  refine (H3.out _).mono ?_
  rintro e w3 ⟨rfl, hb3⟩
  have hk3 := hk2.trans (hb3.mono hk2.size)
  go_wp2
  go_ret
  exact ⟨rfl, hk3⟩

end Go.Proofs.Ytamglmenljgbdaa
