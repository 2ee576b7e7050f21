/-
  What is proved: the walk of the statement WeekSums: the call returns true. Conditions: none beyond what came in.
-/
import Derived.Test.YtcpibhjildfodaaWkJ
namespace Go.Proofs.Ytcpibhjildfodaa
open Go Go.RowKit Go.Proofs
set_option linter.unusedVariables false

theorem minsV_bad {q : Nat → Int} {F : List Int} (h : chk q F ≠ 0) (a b : Int) : minsV q F a b = 0 := sumD_zero fun d => onV_bad h d
theorem daysV_bad {q : Nat → Int} {F : List Int} (h : chk q F ≠ 0) (a b : Int) : daysV q F a b = 0 := sumD_zero fun d => by rw [onV_bad h]; rfl

set_option maxHeartbeats 2000000 in
set_option maxRecDepth 100000 in
theorem walkWeekSums (q : Nat → Int) (p : Option Addr) (F : List Int) (c : Nat) (a b : Int) (w : World) (hD : DaysIn w p F) (hcap : F.length ≤ c) (hmax : F.length ≤ maxLen) (w0 : -9223372036854775808 ≤ a ∧ a ≤ 9223372036854775807) (w1 : -9223372036854775808 ≤ b ∧ b ≤ 9223372036854775807) :
    Calls Try.prog 4 #[.agg #[.int .i64 (q 0), .int .i64 (q 1), .int .i64 (q 2), .int .i64 (q 3), .int .i64 (q 4), .int .i64 (q 5), .int .i64 (q 6), .slice p F.length c], .agg #[.int .i64 a, .int .i64 b]] w fun e w' => e = .returned (.bool true) ∧ Below w.heap.size w w' := by
  have HM := fun W h => Minutes_any q F p c a b W h hcap
  have HY := fun W h => Days_any q F p c a b W h hcap
  have HR := rChk_any q F p c
  have HS := rSum_any q F p c a b
  obtain ⟨n, hnl⟩ : ∃ n, n = F.length := ⟨_, rfl⟩
  obtain ⟨K, hK⟩ : ∃ K, K = chk q F := ⟨_, rfl⟩
  obtain ⟨M, hM⟩ : ∃ M, M = minsV q F a b := ⟨_, rfl⟩
  obtain ⟨Y, hY⟩ : ∃ Y, Y = daysV q F a b := ⟨_, rfl⟩
  rw [← hnl, ← hK] at HR
  rw [← hnl, ← hM, ← hY, ← hK] at HS
  rw [← hnl, ← hM] at HM
  rw [← hnl, ← hY] at HY
  rw [← hnl]
  have HKM : Hid (K ≠ 0 → M = 0) := Lib.hid (fun h => by rw [hM]; exact minsV_bad (by rw [← hK]; exact h) a b)
  have HKY : Hid (K ≠ 0 → Y = 0) := Lib.hid (fun h => by rw [hY]; exact daysV_bad (by rw [← hK]; exact h) a b)
  have HG := great_any q n p c
  have HM := Lib.hid HM
  have HY := Lib.hid HY
  have HR := Lib.hid HR
  have HS := Lib.hid HS
  obtain ⟨W1, hW1⟩ : ∃ W1, W1 = (w.alloc (.cells #[.int .i64 (q 0), .int .i64 (q 1), .int .i64 (q 2), .int .i64 (q 3), .int .i64 (q 4), .int .i64 (q 5), .int .i64 (q 6), .slice p n c] 26)).alloc (.cells #[.int .i64 a, .int .i64 b] 37) := ⟨_, rfl⟩
  have hza : (w.alloc (.cells #[.int .i64 (q 0), .int .i64 (q 1), .int .i64 (q 2), .int .i64 (q 3), .int .i64 (q 4), .int .i64 (q 5), .int .i64 (q 6), .slice p n c] 26)).heap.size = w.heap.size + 1 := by simp
  have hb0 : Below w.heap.size w W1 := by rw [hW1]; exact ((Below.refl w.heap.size w).alloc (Nat.le_refl _) _).alloc (by simp) _
  have hP : PatBox W1 w.heap.size q (.slice p n c) := by rw [hW1]; exact (PatBox.new q _ w _).below ((Below.refl _ _).alloc (Nat.le_refl _) _)
  have s0 : W1.cell? ⟨w.heap.size + 1, 0, none⟩ = some (.int .i64 a) := by rw [hW1, ← hza, World.cell?_alloc_new]; rfl
  have s1 : W1.cell? ⟨w.heap.size + 1, 1, none⟩ = some (.int .i64 b) := by rw [hW1, ← hza, World.cell?_alloc_new]; rfl
  have d0 := hD.below hb0 (Nat.le_refl _)
  clear hD hcap hmax w0 w1 hnl hK hM hY hza
  by_cases hbig : 300 < n
  · rw [decide_eq_true hbig] at HG
    have HG := Lib.hid HG
    clear hbig
    obtain ⟨z0, z1, z2, z3, z4, z5, z6, z7⟩ := hP.all
    go_enter Try.func4, Try.ntmps4
    go_wp2_with fail
    rw [← hW1]
    clear hW1
    refine (HG.out _).mono ?_
    rintro e w2 ⟨rfl, hb2⟩
    have hb3 := hb0.trans (hb2.mono hb0.size)
    go_wp2_with fail
    refine (awake_any _).mono ?_
    rintro e w4 ⟨rfl, hb4⟩
    have hb5 := hb3.trans (hb4.mono hb3.size)
    go_wp2
    go_ret
    exact ⟨rfl, hb5⟩
  · rw [decide_eq_false hbig] at HG
    have HG := Lib.hid HG
    clear hbig
    obtain ⟨z0, z1, z2, z3, z4, z5, z6, z7⟩ := hP.all
    go_enter Try.func4, Try.ntmps4
    go_wp2_with fail
    rw [← hW1]
    clear hW1
    refine (HG.out _).mono ?_
    rintro e w2 ⟨rfl, hb2⟩
    have d1 := d0.stay hb2
    have hP1 := hP.below hb2
    have t0 := stay hb2 s0
    have t1 := stay hb2 s1
    have hb3 := hb0.trans (hb2.mono hb0.size)
    clear z0 z1 z2 z3 z4 z5 z6 z7 d0 hP hb0 hb2 s0 s1
    obtain ⟨z0, z1, z2, z3, z4, z5, z6, z7⟩ := hP1.all
    go_wp2_with fail
    refine (HR.out _ d1).mono ?_
    rintro e w4 ⟨rfl, hb4⟩
    have d2 := d1.stay hb4
    have hP2 := hP1.below hb4
    have s0 := stay hb4 t0
    have s1 := stay hb4 t1
    have hb5 := hb3.trans (hb4.mono hb3.size)
    clear z0 z1 z2 z3 z4 z5 z6 z7 d1 hP1 hb3 hb4 t0 t1
    obtain ⟨z0, z1, z2, z3, z4, z5, z6, z7⟩ := hP2.all
    by_cases hz : K = 0
    · subst hz
      go_wp2_with fail
      refine (HS.out _ (by trivial) d2).mono ?_
      rintro e w6 ⟨rfl, hb6⟩
      have d3 := d2.stay hb6
      have hP3 := hP2.below hb6
      have t0 := stay hb6 s0
      have t1 := stay hb6 s1
      have hb7 := hb5.trans (hb6.mono hb5.size)
      clear z0 z1 z2 z3 z4 z5 z6 z7 d2 hP2 hb5 hb6 s0 s1
      obtain ⟨z0, z1, z2, z3, z4, z5, z6, z7⟩ := hP3.all
      go_wp2_with fail
      refine (HM.out _ d3).mono ?_
      rintro e w8 ⟨rfl, hb8⟩
      have d4 := d3.stay hb8
      have hP4 := hP3.below hb8
      have s0 := stay hb8 t0
      have s1 := stay hb8 t1
      have hb9 := hb7.trans (hb8.mono hb7.size)
      clear z0 z1 z2 z3 z4 z5 z6 z7 d3 hP3 hb7 hb8 t0 t1
      obtain ⟨z0, z1, z2, z3, z4, z5, z6, z7⟩ := hP4.all
      go_wp2_with fail
      refine (HY.out _ d4).mono ?_
      rintro e w10 ⟨rfl, hb10⟩
      have hb11 := hb9.trans (hb10.mono hb9.size)
      clear z0 z1 z2 z3 z4 z5 z6 z7 d4 hP4 hb9 hb10 s0 s1
      go_wp2_with fail
      refine (awake_any _).mono ?_
      rintro e w12 ⟨rfl, hb12⟩
      have hb13 := hb11.trans (hb12.mono hb11.size)
      go_wp2
      go_ret
      exact ⟨rfl, hb13⟩
    · have e1 : (K == 0) = false := by simpa using hz
      obtain rfl := HKM.out hz
      obtain rfl := HKY.out hz
      clear hz HKM HKY
      go_wp2_with fail
      refine (HM.out _ d2).mono ?_
      rintro e w8 ⟨rfl, hb8⟩
      have d4 := d2.stay hb8
      have hP4 := hP2.below hb8
      have t0 := stay hb8 s0
      have t1 := stay hb8 s1
      have hb9 := hb5.trans (hb8.mono hb5.size)
      clear z0 z1 z2 z3 z4 z5 z6 z7 d2 hP2 hb5 hb8 s0 s1
      obtain ⟨z0, z1, z2, z3, z4, z5, z6, z7⟩ := hP4.all
      go_wp2_with fail
      refine (HY.out _ d4).mono ?_
      rintro e w10 ⟨rfl, hb10⟩
      have hb11 := hb9.trans (hb10.mono hb9.size)
      clear z0 z1 z2 z3 z4 z5 z6 z7 d4 hP4 hb9 hb10 t0 t1
      go_wp2_with fail
      refine (awake_any _).mono ?_
      rintro e w12 ⟨rfl, hb12⟩
      have hb13 := hb11.trans (hb12.mono hb11.size)
      go_wp2
      go_ret
      exact ⟨rfl, hb13⟩

end Go.Proofs.Ytcpibhjildfodaa
