/-
  What is proved: the walk of the statement ProrateLoss: the call returns true. Conditions: what came in is as the frame says.
-/
import Derived.Test.YtamglmenljgbdaaPrH
import Derived.Test.YtamglmenljgbdaaPrBB
import Derived.Test.YtamglmenljgbdaaFrameR
namespace Go.Proofs.Ytamglmenljgbdaa
open Go Go.RowKit Go.Proofs
set_option linter.unusedVariables false

set_option maxHeartbeats 4000000 in
set_option maxRecDepth 100000 in
theorem walkProrateLoss (y i n a b q c m l p k : Int) (w : World) (hp : in64 y ∧ in64 i ∧ in64 n ∧ in64 a ∧ in64 b ∧ in64 q) (_ : (Lit.int .i64 c).wf = true) (_ : (Lit.int .i64 m).wf = true) (_ : (Lit.int .i64 l).wf = true) (_ : (Lit.int .i64 p).wf = true) (_ : (Lit.int .i64 k).wf = true) :
    Calls Try.prog 4 #[.agg #[.int .i64 y, .int .i64 i, .int .i64 n, .int .i64 a, .int .i64 b, .int .i64 q], .int .i64 c, .int .i64 m, .int .i64 l, .int .i64 p, .int .i64 k] w fun e w' => e = .returned (.bool true) ∧ Below w.heap.size w w' := by
  obtain ⟨-, -, -, ha, hb, -⟩ := hp
  have H1 := Lib.hid (fun W => Loss_any y i n a b q c m l p W ha hb)
  have H2 := Lib.hid (fun W => rLoss_any a b c m l p W ha hb)
  have H3 := Lib.hid (fun W => Hourly_any c k W)
  have H4 := Lib.hid (fun W => rHourly_any c k W)
  generalize (lossVE (kk a b) c m l p).1 = V1 at H1 H2
  generalize (lossVE (kk a b) c m l p).2 = E1 at H1 H2
  generalize (hourVE c k).1 = V2 at H3 H4
  generalize (hourVE c k).2 = E2 at H3 H4
  have hp6 : P6 (w.alloc (.cells #[.int .i64 y, .int .i64 i, .int .i64 n, .int .i64 a, .int .i64 b, .int .i64 q] 26)) w.heap.size y i n a b q := by unfold P6; refine ⟨?_, ?_, ?_, ?_, ?_, ?_⟩ <;> (rw [World.cell?_alloc_new]; rfl)
  have HP := Lib.hid hp6
  have hb0 := (Below.refl w.heap.size w).alloc (Nat.le_refl _) (.cells #[.int .i64 y, .int .i64 i, .int .i64 n, .int .i64 a, .int .i64 b, .int .i64 q] 26)
  have d1 : (V1 == V1) = true := by simp
  have d2 : (E1 == E1) = true := by simp
  have d3 : (V2 == V2) = true := by simp
  have d4 : (E2 == E2) = true := by simp
  clear hp6
  go_enter Try.func4, Try.ntmps4
  go_wp2_with fail
  refine (awake_any _).mono ?_
  rintro e w1 ⟨rfl, hb1⟩
  have hp1 := HP.out.kp hb1
  have HP1 := Lib.hid hp1
  have hk1 := hb0.trans (hb1.mono hb0.size)
  obtain ⟨f0, f1, f2, f3, f4, f5⟩ := hp1
  go_wp2_with fail
  refine (H1.out _).mono ?_
  rintro e w2 ⟨rfl, hb2⟩
  have hk2 := hk1.trans (hb2.mono hk1.size)
  clear f0 f1 f2 f3 f4 f5
  obtain ⟨f0, f1, f2, f3, f4, f5⟩ := HP1.out.kp hb2
  go_wp2_with fail
  refine (H2.out _).mono ?_
  rintro e w3 ⟨rfl, hb3⟩
  have hk3 := hk2.trans (hb3.mono hk2.size)
  clear f0 f1 f2 f3 f4 f5
  go_wp2_with fail
  refine (H3.out _).mono ?_
  rintro e w4 ⟨rfl, hb4⟩
  have hk4 := hk3.trans (hb4.mono hk3.size)
  go_wp2_with fail
  refine (H4.out _).mono ?_
  rintro e w5 ⟨rfl, hb5⟩
  have hk5 := hk4.trans (hb5.mono hk4.size)
  go_wp2
  go_ret
  exact ⟨rfl, hk5⟩

end Go.Proofs.Ytamglmenljgbdaa
