/-
  What is proved: the walk of the statement CentsAdds: the call returns true. Conditions: the table of powers of ten reads as the library lays it.
-/
import Derived.Test.YthdjpkpkkdnofaaDoorAwake
namespace Go.Proofs.YthdjpkpkkdnofaaDoor
open Go Go.RowKit Go.Lib Go.Proofs
set_option linter.unusedVariables false

theorem fitsB_neg (b : Int) : fitsB (-b) = fitsB b := by
  rw [Bool.eq_iff_iff, fitsB_iff, fitsB_iff]; omega
theorem sub_add (a b : Int) : subV a b = addV a (-b) ∧ subE a b = addE a (-b) := by
  unfold subV addV subE addE
  rw [fitsB_neg, Int.sub_eq_add_neg]; exact ⟨rfl, rfl⟩
theorem sub_no (a b : Int) (h : fitsB b = false) : subV a b = 0 ∧ subE a b = 2 := by
  simp [subV, subE, h]

set_option maxHeartbeats 1000000 in
set_option maxRecDepth 100000 in
theorem walkCentsAdds (a b : Int) (w : World) (w0 : (Lit.int .i64 a).wf = true) (w1 : (Lit.int .i64 b).wf = true) (htab : TabIs Tryd.prog w "internal/strconv.uint64pow10" .u64 pow10Tab) :
    Calls Tryd.prog 3 #[.int .i64 a, .int .i64 b] w fun e w' => e = .returned (.bool true) ∧ Below w.heap.size w w' := by
  clear w0 w1
  have b1 := addE_bd a b
  have b2 := subE_bd a b
  by_cases hb : fitsB b = true
  · obtain ⟨e1, e2⟩ := sub_add a b
    obtain ⟨f1, f2⟩ := fitsB_iff.1 hb
    rw [e2] at b2
    have hc : Calls Tryd.prog 16 #[.int .i64 a, .int .i64 b] w fun e w' => e = .returned (.tuple #[.int .i64 (addV a (-b)), .int .i64 (addE a (-b))]) ∧ w = w' := by
      have := sub_any a b w
      rwa [e1, e2] at this
    have HC := Lib.hid hc
    clear hc e1 e2
    go_enter Tryd.func3, Tryd.ntmps3
    go_wp2_with (first | (go_at_call 15; refine (add_any _ _ _).mono ?_; rintro e w' ⟨rfl, rfl⟩) | (go_at_call 16; refine (HC.out).mono ?_; rintro e w' ⟨rfl, rfl⟩) | (go_at_call 17; refine (radd_any _ _ _).mono ?_; rintro e w' ⟨rfl, rfl⟩) | (go_at_call 18; refine (rfits_any _ _).mono ?_; rintro e w' ⟨rfl, rfl⟩) | (go_at_call 19; refine (fits_any _ _).mono ?_; rintro e w' ⟨rfl, rfl⟩) | (go_at_call 20; refine (awake_any _ htab).mono ?_; rintro e w' ⟨rfl, hb⟩))
    go_ret
    exact ⟨rfl, by assumption⟩
  · simp only [Bool.not_eq_true] at hb
    obtain ⟨e1, e2⟩ := sub_no a b hb
    have hc : Calls Tryd.prog 16 #[.int .i64 a, .int .i64 b] w fun e w' => e = .returned (.tuple #[.int .i64 0, .int .i64 2]) ∧ w = w' := by
      have := sub_any a b w
      rwa [e1, e2] at this
    have HC := Lib.hid hc
    clear hc e1 e2 b2
    go_enter Tryd.func3, Tryd.ntmps3
    go_wp2_with (first | (go_at_call 15; refine (add_any _ _ _).mono ?_; rintro e w' ⟨rfl, rfl⟩) | (go_at_call 16; refine (HC.out).mono ?_; rintro e w' ⟨rfl, rfl⟩) | (go_at_call 17; refine (radd_any _ _ _).mono ?_; rintro e w' ⟨rfl, rfl⟩) | (go_at_call 18; refine (rfits_any _ _).mono ?_; rintro e w' ⟨rfl, rfl⟩) | (go_at_call 19; refine (fits_any _ _).mono ?_; rintro e w' ⟨rfl, rfl⟩) | (go_at_call 20; refine (awake_any _ htab).mono ?_; rintro e w' ⟨rfl, hb⟩))
    go_ret
    exact ⟨rfl, by assumption⟩

end Go.Proofs.YthdjpkpkkdnofaaDoor
