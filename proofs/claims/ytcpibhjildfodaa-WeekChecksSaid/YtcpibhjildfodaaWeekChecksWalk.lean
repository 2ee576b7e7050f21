/-
  What is proved: the walk of the statement WeekChecks: the call returns true. Conditions: none beyond what came in.
-/
import Derived.Test.YtcpibhjildfodaaWkJ
namespace Go.Proofs.Ytcpibhjildfodaa
open Go Go.RowKit Go.Proofs
set_option linter.unusedVariables false

set_option maxHeartbeats 2000000 in
set_option maxRecDepth 100000 in
theorem walkWeekChecks (q : Nat → Int) (p : Option Addr) (F : List Int) (c : Nat) (d : Int) (w : World) (hD : DaysIn w p F) (hcap : F.length ≤ c) (hmax : F.length ≤ maxLen) (w0 : (Lit.int .i64 d).wf = true) :
    Calls Try.prog 3 #[.agg #[.int .i64 (q 0), .int .i64 (q 1), .int .i64 (q 2), .int .i64 (q 3), .int .i64 (q 4), .int .i64 (q 5), .int .i64 (q 6), .slice p F.length c], .int .i64 d] w fun e w' => e = .returned (.bool true) ∧ Below w.heap.size w w' := by
  have HC := Check_any q F p c
  have HR := rChk_any q F p c
  have HO := On_any q F d p c
  have HRO := rOn_any q F d p c
  have hnv := onV_bd q F d
  obtain ⟨n, hnl⟩ : ∃ n, n = F.length := ⟨_, rfl⟩
  obtain ⟨K, hK⟩ : ∃ K, K = chk q F := ⟨_, rfl⟩
  obtain ⟨O, hO⟩ : ∃ O, O = onV q F d := ⟨_, rfl⟩
  rw [← hnl, ← hK] at HC HR
  rw [← hnl, ← hO] at HO HRO
  rw [← hK] at HRO
  rw [← hnl]
  have HKO : Hid (K ≠ 0 → O = 0) := Lib.hid (fun h => by rw [hO]; exact onV_bad (by rw [← hK]; exact h) d)
  have HG := great_any q n p c
  have HC := Lib.hid HC
  have HR := Lib.hid HR
  have HO := Lib.hid HO
  have HRO := Lib.hid HRO
  obtain ⟨W1, hW1⟩ : ∃ W1, W1 = w.alloc (.cells #[.int .i64 (q 0), .int .i64 (q 1), .int .i64 (q 2), .int .i64 (q 3), .int .i64 (q 4), .int .i64 (q 5), .int .i64 (q 6), .slice p n c] 26) := ⟨_, rfl⟩
  have hb0 : Below w.heap.size w W1 := by rw [hW1]; exact (Below.refl w.heap.size w).alloc (Nat.le_refl _) _
  have hP : PatBox W1 w.heap.size q (.slice p n c) := by rw [hW1]; exact PatBox.new q _ w _
  have d0 := hD.below hb0 (Nat.le_refl _)
  clear hD hcap hmax w0 hnl hK hO hnv
  by_cases hbig : 300 < n
  · rw [decide_eq_true hbig] at HG
    have HG := Lib.hid HG
    clear hbig
    obtain ⟨z0, z1, z2, z3, z4, z5, z6, z7⟩ := hP.all
    go_enter Try.func3, Try.ntmps3
    go_wp2_with fail
    rw [← hW1]
    clear hW1
    refine (HG.out _).mono ?_
    rintro e w2 ⟨rfl, hb2⟩
    have hb3 := hb0.trans (hb2.mono hb0.size)
    go_wp2_with fail
    refine (awake_any _).mono ?_
    rintro e w4 ⟨rfl, hb4⟩
    have hb5 := hb3.trans (hb4.mono hb3.size)
    go_wp2
    go_ret
    exact ⟨rfl, hb5⟩
  · rw [decide_eq_false hbig] at HG
    have HG := Lib.hid HG
    clear hbig
    obtain ⟨z0, z1, z2, z3, z4, z5, z6, z7⟩ := hP.all
    go_enter Try.func3, Try.ntmps3
    go_wp2_with fail
    rw [← hW1]
    clear hW1
    refine (HG.out _).mono ?_
    rintro e w2 ⟨rfl, hb2⟩
    have d1 := d0.stay hb2
    have hP1 := hP.below hb2
    have hb3 := hb0.trans (hb2.mono hb0.size)
    clear z0 z1 z2 z3 z4 z5 z6 z7 d0 hP hb0 hb2
    obtain ⟨z0, z1, z2, z3, z4, z5, z6, z7⟩ := hP1.all
    go_wp2_with fail
    refine (HR.out _ d1).mono ?_
    rintro e w4 ⟨rfl, hb4⟩
    have d2 := d1.stay hb4
    have hP2 := hP1.below hb4
    have hb5 := hb3.trans (hb4.mono hb3.size)
    clear z0 z1 z2 z3 z4 z5 z6 z7 d1 hP1 hb3 hb4
    obtain ⟨z0, z1, z2, z3, z4, z5, z6, z7⟩ := hP2.all
    by_cases hz : K = 0
    · subst hz
      go_wp2_with fail
      refine (HRO.out _ (by trivial) d2).mono ?_
      rintro e w6 ⟨rfl, hb6⟩
      have d3 := d2.stay hb6
      have hP3 := hP2.below hb6
      have hb7 := hb5.trans (hb6.mono hb5.size)
      clear z0 z1 z2 z3 z4 z5 z6 z7 d2 hP2 hb5 hb6
      obtain ⟨z0, z1, z2, z3, z4, z5, z6, z7⟩ := hP3.all
      go_wp2_with fail
      refine (HC.out _ d3).mono ?_
      rintro e w8 ⟨rfl, hb8⟩
      have d4 := d3.stay hb8
      have hP4 := hP3.below hb8
      have hb9 := hb7.trans (hb8.mono hb7.size)
      clear z0 z1 z2 z3 z4 z5 z6 z7 d3 hP3 hb7 hb8
      obtain ⟨z0, z1, z2, z3, z4, z5, z6, z7⟩ := hP4.all
      go_wp2_with fail
      refine (HO.out _ d4).mono ?_
      rintro e w10 ⟨rfl, hb10⟩
      have hb11 := hb9.trans (hb10.mono hb9.size)
      clear z0 z1 z2 z3 z4 z5 z6 z7 d4 hP4 hb9 hb10
      go_wp2_with fail
      refine (awake_any _).mono ?_
      rintro e w12 ⟨rfl, hb12⟩
      have hb13 := hb11.trans (hb12.mono hb11.size)
      go_wp2
      go_ret
      exact ⟨rfl, hb13⟩
    · have e1 : (K == 0) = false := by simpa using hz
      have e2 : (K == K) = true := by simp
      have HZ := Lib.hid (HKO.out hz)
      clear hz
      go_wp2_with fail
      refine (HC.out _ d2).mono ?_
      rintro e w8 ⟨rfl, hb8⟩
      have d4 := d2.stay hb8
      have hP4 := hP2.below hb8
      have hb9 := hb5.trans (hb8.mono hb5.size)
      clear z0 z1 z2 z3 z4 z5 z6 z7 d2 hP2 hb5 hb8
      obtain ⟨z0, z1, z2, z3, z4, z5, z6, z7⟩ := hP4.all
      obtain rfl := HZ.out
      go_wp2_with fail
      refine (HO.out _ d4).mono ?_
      rintro e w10 ⟨rfl, hb10⟩
      have hb11 := hb9.trans (hb10.mono hb9.size)
      clear z0 z1 z2 z3 z4 z5 z6 z7 d4 hP4 hb9 hb10
      go_wp2_with fail
      refine (awake_any _).mono ?_
      rintro e w12 ⟨rfl, hb12⟩
      have hb13 := hb11.trans (hb12.mono hb11.size)
      go_wp2
      go_ret
      exact ⟨rfl, hb13⟩

end Go.Proofs.Ytcpibhjildfodaa
