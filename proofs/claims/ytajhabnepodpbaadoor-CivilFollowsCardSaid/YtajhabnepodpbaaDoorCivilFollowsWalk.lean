/-
  What is proved: the walk of the statement CivilFollows: the call returns true. Conditions: the table of months' lengths reads as its text lays it.
-/
import Derived.Test.YtajhabnepodpbaaDoorCivWalk
namespace Go.Proofs.YtajhabnepodpbaaDoor
open Go Go.RowKit Go.Proofs
set_option linter.unusedVariables false

set_option maxHeartbeats 1000000 in
set_option maxRecDepth 100000 in
theorem walkCivilFollows (n : Int) (w : World) (w0 : (Lit.int .u32 n).wf = true) (hL : Len w) :
    Calls Tryd.prog 8 #[.int .u32 n] w fun e w' => e = .returned (.bool true) ∧ Below w.heap.size w w' := by
  obtain ⟨n1, n2⟩ := bounds_u32 w0
  obtain ⟨N, hN⟩ : ∃ N, N = -25567 + n % 109572 := ⟨_, rfl⟩
  have b1 : -25567 ≤ N := by omega
  have b2 : N ≤ 84004 := by omega
  obtain ⟨y, m, d, hok, hnum⟩ := date_of N b1 (by omega)
  obtain ⟨y1, y2, m1, m2, dd1, dd2⟩ := okB_iff.1 hok
  have hdb := dim_bd y m
  have hdd : d ≤ 31 := by omega
  have e0 : -25567 + n % 109572 = N := hN.symm
  have hmd := mdV_in y1 y2 m1 m2
  have HT := Lib.hid (to_yes y m d N hok hnum)
  have hk := wk_bd N b1 (by omega)
  have HK0 := wk_any N
  have HK1 := wk_any (N + 1)
  rw [wk_next N b1 b2] at HK1
  generalize wkV N = k at hk HK0 HK1
  have HW0 := Lib.hid HK0
  have HW1 := Lib.hid HK1
  clear HK0 HK1 hN w0
  by_cases c1 : d < dim y m
  · obtain ⟨ok2, nu2⟩ := next1 hok hnum c1
    have HT2 := Lib.hid (to_yes y m (d + 1) (N + 1) ok2 nu2)
    have t1 : decide (d < mdV y m) = true := by rw [hmd]; exact decide_eq_true c1
    clear c1
    clear ok2 nu2 hok hnum hmd dd2
    go_enter Tryd.func8, Tryd.ntmps8
    go_wp2_with fail
    refine (HT.out _ hL).mono ?_
    rintro e w1 ⟨rfl, hb1⟩
    have hL1 := hL.below hb1 (Nat.le_refl _)
    go_wp2_with fail
    refine (HT2.out _ hL1).mono ?_
    rintro e w2 ⟨rfl, hb2⟩
    have hL2 := hL1.below hb2 (Nat.le_refl _)
    have hb12 := hb1.trans (hb2.mono hb1.size)
    have hb13 := (hb12.alloc hb12.size (.cells #[.int .i64 y, .int .i64 m, .int .i64 d] 23)).alloc (by have := hb12.size; simp; omega) (.cells #[.int .i64 y, .int .i64 m, .int .i64 (d + 1)] 23)
    have hL3 := (hL2.alloc (.cells #[.int .i64 y, .int .i64 m, .int .i64 d] 23)).alloc (.cells #[.int .i64 y, .int .i64 m, .int .i64 (d + 1)] 23)
    have hz : w.heap.size ≤ w2.heap.size := hb12.size
    clear hb1 hb2 hL1 hL2 hb12
    go_wp2_with fail
    refine (HW1.out _).mono ?_
    rintro e w' ⟨rfl, rfl⟩
    go_wp2_with fail
    refine (HW0.out _).mono ?_
    rintro e w' ⟨rfl, rfl⟩
    go_wp2
    go_quiet ((go_at_call 14; exact Calls.quiet_of_same (md_q _ _ _ (hL3.drewN _))))
    go_wp2_with fail
    refine (awake_on hL (below_drewN hb13 _) (Nat.le_refl _) (by simp; omega)).mono ?_
    rintro e w4 ⟨rfl, hb4⟩
    go_wp2
    go_ret
    exact ⟨rfl, hb4⟩
  · have t1 : decide (d < mdV y m) = false := by rw [hmd]; exact decide_eq_false c1
    by_cases c2 : m < 12
    · obtain ⟨ok2, nu2⟩ := next2 hok hnum c1 c2
      have HT2 := Lib.hid (to_yes y (m + 1) 1 (N + 1) ok2 nu2)
      clear c1
      clear ok2 nu2 hok hnum hmd dd2
      go_enter Tryd.func8, Tryd.ntmps8
      go_wp2_with fail
      refine (HT.out _ hL).mono ?_
      rintro e w1 ⟨rfl, hb1⟩
      have hL1 := hL.below hb1 (Nat.le_refl _)
      go_wp2_with fail
      refine (HT2.out _ hL1).mono ?_
      rintro e w2 ⟨rfl, hb2⟩
      have hL2 := hL1.below hb2 (Nat.le_refl _)
      have hb12 := hb1.trans (hb2.mono hb1.size)
      have hb13 := (hb12.alloc hb12.size (.cells #[.int .i64 y, .int .i64 m, .int .i64 d] 23)).alloc (by have := hb12.size; simp; omega) (.cells #[.int .i64 y, .int .i64 (m + 1), .int .i64 1] 23)
      have hL3 := (hL2.alloc (.cells #[.int .i64 y, .int .i64 m, .int .i64 d] 23)).alloc (.cells #[.int .i64 y, .int .i64 (m + 1), .int .i64 1] 23)
      have hz : w.heap.size ≤ w2.heap.size := hb12.size
      clear hb1 hb2 hL1 hL2 hb12
      go_wp2_with fail
      refine (HW1.out _).mono ?_
      rintro e w' ⟨rfl, rfl⟩
      go_wp2_with fail
      refine (HW0.out _).mono ?_
      rintro e w' ⟨rfl, rfl⟩
      go_wp2
      go_quiet ((go_at_call 14; exact Calls.quiet_of_same (md_q _ _ _ (hL3.drewN _))))
      go_wp2_with fail
      refine (awake_on hL (below_drewN hb13 _) (Nat.le_refl _) (by simp; omega)).mono ?_
      rintro e w4 ⟨rfl, hb4⟩
      go_wp2
      go_ret
      exact ⟨rfl, hb4⟩
    · obtain ⟨ok2, nu2⟩ := next3 hok hnum c1 c2 b2
      have HT2 := Lib.hid (to_yes (y + 1) 1 1 (N + 1) ok2 nu2)
      clear c1
      clear ok2 nu2 hok hnum hmd dd2
      go_enter Tryd.func8, Tryd.ntmps8
      go_wp2_with fail
      refine (HT.out _ hL).mono ?_
      rintro e w1 ⟨rfl, hb1⟩
      have hL1 := hL.below hb1 (Nat.le_refl _)
      go_wp2_with fail
      refine (HT2.out _ hL1).mono ?_
      rintro e w2 ⟨rfl, hb2⟩
      have hL2 := hL1.below hb2 (Nat.le_refl _)
      have hb12 := hb1.trans (hb2.mono hb1.size)
      have hb13 := (hb12.alloc hb12.size (.cells #[.int .i64 y, .int .i64 m, .int .i64 d] 23)).alloc (by have := hb12.size; simp; omega) (.cells #[.int .i64 (y + 1), .int .i64 1, .int .i64 1] 23)
      have hL3 := (hL2.alloc (.cells #[.int .i64 y, .int .i64 m, .int .i64 d] 23)).alloc (.cells #[.int .i64 (y + 1), .int .i64 1, .int .i64 1] 23)
      have hz : w.heap.size ≤ w2.heap.size := hb12.size
      clear hb1 hb2 hL1 hL2 hb12
      go_wp2_with fail
      refine (HW1.out _).mono ?_
      rintro e w' ⟨rfl, rfl⟩
      go_wp2_with fail
      refine (HW0.out _).mono ?_
      rintro e w' ⟨rfl, rfl⟩
      go_wp2
      go_quiet ((go_at_call 14; exact Calls.quiet_of_same (md_q _ _ _ (hL3.drewN _))))
      go_wp2_with fail
      refine (awake_on hL (below_drewN hb13 _) (Nat.le_refl _) (by simp; omega)).mono ?_
      rintro e w4 ⟨rfl, hb4⟩
      go_wp2
      go_ret
      exact ⟨rfl, hb4⟩

end Go.Proofs.YtajhabnepodpbaaDoor
