/-
  What is proved: the statement ShareCuts' function returns true. Conditions: none.
-/
import Derived.Test.YtkhjlpjhmdmfiaaShareH
import Derived.Test.YtkhjlpjhmdmfiaaShareW
namespace Go.Proofs.Ytkhjlpjhmdmfiaa
open Go Go.RowKit Go.Proofs

set_option maxHeartbeats 1000000 in
theorem walkShareCuts (t a b f : Int) (w : World) (_ : (Lit.int .i64 t).wf = true) (_ : (Lit.int .i64 a).wf = true) (_ : (Lit.int .i64 b).wf = true) (_ : (Lit.int .i64 f).wf = true) : Calls Try.prog 7 #[.int .i64 t, .int .i64 a, .int .i64 b, .int .i64 f] w fun e w' => e = .returned (.bool true) ∧ Below w.heap.size w w' := by
  have H1 := Lib.hid (UpTo_any t a f)
  have H2 := Lib.hid (refUp_any t a f)
  have H3 := Lib.hid (Between_any t a b f)
  have H4 := Lib.hid (refBetween_any t a b f)
  generalize upR t a f = V1 at H1 H2
  generalize upE t a f = E1 at H1 H2
  generalize betR t a b f = V2 at H3 H4
  generalize betE t a b f = E2 at H3 H4
  have d1 : (V1 == V1) = true := by simp
  have d2 : (E1 == E1) = true := by simp
  have d3 : (V2 == V2) = true := by simp
  have d4 : (E2 == E2) = true := by simp
  go_enter Try.func7, Try.ntmps7
  go_wp2_with fail
  refine (H1.out _).mono ?_
  rintro e w1 ⟨rfl, m, rfl⟩
  go_wp2_with fail
  refine (H2.out _).mono ?_
  rintro e w1 ⟨rfl, rfl⟩
  go_wp2_with fail
  refine (H3.out _).mono ?_
  rintro e w1 ⟨rfl, m', rfl⟩
  go_wp2_with fail
  refine (H4.out _).mono ?_
  rintro e w1 ⟨rfl, rfl⟩
  go_wp2_with fail
  refine (awake_any _).mono ?_
  rintro e w1 ⟨rfl, hb⟩
  go_wp2
  go_ret
  exact ⟨rfl, (below_drewN (Below.refl w.heap.size w) (m + m')).trans hb⟩

end Go.Proofs.Ytkhjlpjhmdmfiaa
