/-
  What is proved: the walk of WeekParses. Conditions: the variable ErrRange holds an error.
-/
import Derived.Test.YtbgilplaefdhbaaDoorDkT
import Derived.Test.YtbgilplaefdhbaaDoorDkX
import Derived.Deep.DeepCutAuto
namespace Go.Proofs.YtbgilplaefdhbaaDoor
open Go Go.RowKit Go.Lib Go.Proofs
set_option linter.unusedVariables false

theorem eqlSelf (x0 x1 x2 x3 x4 x5 x6 : Int) (W : World) : (binOp .eql 23 (.agg #[.int .i64 x0, .int .i64 x1, .int .i64 x2, .int .i64 x3, .int .i64 x4, .int .i64 x5, .int .i64 x6]) (.agg #[.int .i64 x0, .int .i64 x1, .int .i64 x2, .int .i64 x3, .int .i64 x4, .int .i64 x5, .int .i64 x6])).run Tryd.prog W = .ok (.bool true) W := by
  obtain ⟨i, hi⟩ := infoInt
  have hu := Tryd.underlying3
  rw [run_eql_struct, run_equalIn_array W 9999 _ _ uWeek hi, show List.range 7 = [0, 1, 2, 3, 4, 5, 6] from rfl, cInt]
  simp [Op.eqItems, go_sem, part, hu]

theorem new7v (w : World) (t : TypeId) (x0 x1 x2 x3 x4 x5 x6 : Value) :
    (w.alloc (.cells #[x0, x1, x2, x3, x4, x5, x6] t)).cell? ⟨w.heap.size, 0, none⟩ = some x0 ∧ (w.alloc (.cells #[x0, x1, x2, x3, x4, x5, x6] t)).cell? ⟨w.heap.size, 1, none⟩ = some x1 ∧
    (w.alloc (.cells #[x0, x1, x2, x3, x4, x5, x6] t)).cell? ⟨w.heap.size, 2, none⟩ = some x2 ∧ (w.alloc (.cells #[x0, x1, x2, x3, x4, x5, x6] t)).cell? ⟨w.heap.size, 3, none⟩ = some x3 ∧
    (w.alloc (.cells #[x0, x1, x2, x3, x4, x5, x6] t)).cell? ⟨w.heap.size, 4, none⟩ = some x4 ∧ (w.alloc (.cells #[x0, x1, x2, x3, x4, x5, x6] t)).cell? ⟨w.heap.size, 5, none⟩ = some x5 ∧
    (w.alloc (.cells #[x0, x1, x2, x3, x4, x5, x6] t)).cell? ⟨w.heap.size, 6, none⟩ = some x6 := by
  refine ⟨?_, ?_, ?_, ?_, ?_, ?_, ?_⟩ <;> (rw [World.cell?_alloc_new]; rfl)

set_option maxHeartbeats 4000000 in
set_option maxRecDepth 100000 in
theorem walkWeekParses (s : ByteArray) (w : World) (w0 : s.size ≤ maxLen) (hE : Sent w ∧ Tab w) :
    Calls Tryd.prog 4 #[.string s] w fun e w' => e = .returned (.bool true) ∧ Below w.heap.size w w' := by
  unfold maxLen at w0
  have HW := Lib.hid awake_any
  have hS := hE.1
  clear hE
  by_cases h1 : 300 < s.size
  · have i1 : (300 : Int) < (s.size : Int) := by omega
    clear h1
    go_enter Tryd.func4, Tryd.ntmps4
    go_wp2_with fail
    refine (HW.out _).mono ?_
    rintro e w1 ⟨rfl, hb1⟩
    go_wp2
    go_ret
    exact ⟨rfl, hb1⟩
  · have i1 : ¬ (300 : Int) < (s.size : Int) := by omega
    have H1 := Lib.hid (Parse_any s (by omega) w hS)
    have H2 := Lib.hid (rParse_any s (by omega))
    generalize fieldsL s.data.toList = F at H1 H2
    unfold PrsPost at H1 H2
    obtain ⟨E, hE⟩ : ∃ E, E = wfE F := ⟨_, rfl⟩
    rw [← hE] at H1 H2
    generalize wfV F 0 = x0 at H1 H2
    generalize wfV F 1 = x1 at H1 H2
    generalize wfV F 2 = x2 at H1 H2
    generalize wfV F 3 = x3 at H1 H2
    generalize wfV F 4 = x4 at H1 H2
    generalize wfV F 5 = x5 at H1 H2
    generalize wfV F 6 = x6 at H1 H2
    have hq := eqlSelf x0 x1 x2 x3 x4 x5 x6
    clear h1 hE hS
    go_enter Tryd.func4, Tryd.ntmps4
    go_wp2_with fail
    refine (H1.out).mono ?_
    rintro e w1 ⟨rfl, hb1⟩
    have n1 := new7v w1 23 (.int .i64 x0) (.int .i64 x1) (.int .i64 x2) (.int .i64 x3) (.int .i64 x4) (.int .i64 x5) (.int .i64 x6)
    obtain ⟨W2, hW2⟩ : ∃ W2, W2 = w1.alloc (.cells #[.int .i64 x0, .int .i64 x1, .int .i64 x2, .int .i64 x3, .int .i64 x4, .int .i64 x5, .int .i64 x6] 23) := ⟨_, rfl⟩
    have hb2 : Below w1.heap.size w1 W2 := by rw [hW2]; exact (Below.refl _ _).alloc (Nat.le_refl _) _
    rw [← hW2] at n1
    have hb3 := hb1.trans (hb2.mono hb1.size)
    have HS1 := Lib.hid n1
    go_wp2_with fail
    rw [← hW2]
    clear hW2 n1
    refine (H2.out _).mono ?_
    rintro e w3 ⟨rfl, hb4⟩
    obtain ⟨a0, a1, a2, a3, a4, a5, a6⟩ := HS1.out
    replace a0 := stay hb4 a0
    replace a1 := stay hb4 a1
    replace a2 := stay hb4 a2
    replace a3 := stay hb4 a3
    replace a4 := stay hb4 a4
    replace a5 := stay hb4 a5
    replace a6 := stay hb4 a6
    have hb5 := hb3.trans (hb4.mono hb3.size)
    have n2 := new7v w3 22 (.int .i64 x0) (.int .i64 x1) (.int .i64 x2) (.int .i64 x3) (.int .i64 x4) (.int .i64 x5) (.int .i64 x6)
    obtain ⟨W4, hW4⟩ : ∃ W4, W4 = w3.alloc (.cells #[.int .i64 x0, .int .i64 x1, .int .i64 x2, .int .i64 x3, .int .i64 x4, .int .i64 x5, .int .i64 x6] 22) := ⟨_, rfl⟩
    have hb6 : Below w3.heap.size w3 W4 := by rw [hW4]; exact (Below.refl _ _).alloc (Nat.le_refl _) _
    rw [← hW4] at n2
    replace a0 := stay hb6 a0
    replace a1 := stay hb6 a1
    replace a2 := stay hb6 a2
    replace a3 := stay hb6 a3
    replace a4 := stay hb6 a4
    replace a5 := stay hb6 a5
    replace a6 := stay hb6 a6
    have hb7 := hb5.trans (hb6.mono hb5.size)
    obtain ⟨c0, c1, c2, c3, c4, c5, c6⟩ := n2
    go_upto_region 5 with fail
    rw [← hW4]
    clear hW4
    go_wp2_with fail
    refine (HW.out _).mono ?_
    rintro e w5 ⟨rfl, hb8⟩
    go_wp2
    go_ret
    exact ⟨rfl, hb7.trans (hb8.mono hb7.size)⟩

end Go.Proofs.YtbgilplaefdhbaaDoor
