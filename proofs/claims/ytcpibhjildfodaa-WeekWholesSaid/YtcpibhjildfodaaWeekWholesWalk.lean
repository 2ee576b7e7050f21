/-
  What is proved: the walk of the statement WeekWholes: the call returns true. Conditions: none beyond what came in.
-/
import Derived.Test.YtcpibhjildfodaaWkJ
namespace Go.Proofs.Ytcpibhjildfodaa
open Go Go.RowKit Go.Proofs
set_option linter.unusedVariables false

/-- A week's sum. -/
def sum7 (f : Nat → Int) : Nat → Int
  | 0 => 0
  | k + 1 => sum7 f k + f k
theorem week_sum (hh : Int → Int) (q : Nat → Int) (d : Int) (h1 : -25567 ≤ d) (h2 : d + 7 ≤ 84006) : sumD (fun x => hh (wkM q x)) d 7 = sum7 (fun i => hh (q i)) 7 := by
  have e : ∀ i : Nat, i < 7 → wkM q (d + (i : Int)) = q (((d + 25567) % 7 + (i : Int)) % 7).toNat := fun i hi => by
    unfold wkM wkV
    rw [if_pos (inB_yes (by omega) (by omega))]
    congr 2
    omega
  have e0 := e 0 (by omega)
  have e1 := e 1 (by omega)
  have e2 := e 2 (by omega)
  have e3 := e 3 (by omega)
  have e4 := e 4 (by omega)
  have e5 := e 5 (by omega)
  have e6 := e 6 (by omega)
  simp only [sumD, sum7]
  rw [e0, e1, e2, e3, e4, e5, e6]
  clear e e0 e1 e2 e3 e4 e5 e6
  have hr : (d + 25567) % 7 = 0 ∨ (d + 25567) % 7 = 1 ∨ (d + 25567) % 7 = 2 ∨ (d + 25567) % 7 = 3 ∨ (d + 25567) % 7 = 4 ∨ (d + 25567) % 7 = 5 ∨ (d + 25567) % 7 = 6 := by omega
  rcases hr with r | r | r | r | r | r | r <;> rw [r] <;> simp <;> omega
theorem weeks_sum (hh : Int → Int) (q : Nat → Int) (d : Int) (h1 : -25567 ≤ d) : ∀ k : Nat, d + 7 * k ≤ 84006 → sumD (fun x => hh (wkM q x)) d (7 * k) = k * sum7 (fun i => hh (q i)) 7
  | 0, _ => by simp [sumD]
  | k + 1, h2 => by
    rw [show 7 * (k + 1) = 7 * k + 7 by omega, sumD_add, weeks_sum hh q d h1 k (by omega), week_sum hh q _ (by omega) (by omega)]
    rw [show ((k + 1 : Nat) : Int) = (k : Int) + 1 by omega, Int.add_mul, Int.one_mul]
theorem whole_mins {q : Nat → Int} (hq : chk q [] = 0) {d : Int} {k : Nat} (h1 : -25567 ≤ d) (h2 : d + 7 * k ≤ 84006) : minsV q [] d (d + 7 * k) = k * sum7 q 7 ∧ daysV q [] d (d + 7 * k) = k * sum7 (fun i => one (q i)) 7 := by
  have hl : lo d = d := by unfold lo; omega
  have hc : cnt d (d + 7 * k) = 7 * k := by unfold cnt; omega
  unfold minsV daysV
  rw [hl, hc]
  have a := sumD_on hq (fun m => m) rfl (a := d) (n := 7 * k) h1 (by omega)
  have b := sumD_on hq one (by unfold one; rw [if_pos rfl]) (a := d) (n := 7 * k) h1 (by omega)
  simp only [List.not_mem_nil, if_false] at a b
  refine ⟨?_, ?_⟩
  · rw [← a]; exact weeks_sum (fun m => m) q d h1 k h2
  · rw [← b]; exact weeks_sum one q d h1 k h2
theorem sum7_bd {f : Nat → Int} {m : Int} (h : ∀ i, i < 7 → 0 ≤ f i ∧ f i ≤ m) : ∀ k, k ≤ 7 → 0 ≤ sum7 f k ∧ sum7 f k ≤ m * k
  | 0, _ => by simp [sum7]
  | k + 1, hk => by
    have ih := sum7_bd h k (by omega)
    have h1 := h k (by omega)
    show 0 ≤ sum7 f k + f k ∧ sum7 f k + f k ≤ m * ((k + 1 : Nat) : Int)
    rw [show m * ((k + 1 : Nat) : Int) = m * k + m by rw [show ((k + 1 : Nat) : Int) = (k : Int) + 1 by omega, Int.mul_add, Int.mul_one]]
    omega

set_option maxHeartbeats 2000000 in
set_option maxRecDepth 100000 in
theorem walkWeekWholes (q : Nat → Int) (N T : Int) (w : World) (w0 : (Lit.int .u32 N).wf = true) (w1 : (Lit.int .u8 T).wf = true) :
    Calls Try.prog 7 #[.agg #[.int .i64 (q 0), .int .i64 (q 1), .int .i64 (q 2), .int .i64 (q 3), .int .i64 (q 4), .int .i64 (q 5), .int .i64 (q 6)], .int .u32 N, .int .u8 T] w fun e w' => e = .returned (.bool true) ∧ Below w.heap.size w w' := by
  have hN : 0 ≤ N ∧ N ≤ 4294967295 := by
    simp [Lit.wf, IntKind.min, IntKind.max, IntKind.signed, IntKind.bits] at w0; omega
  have hT : 0 ≤ T ∧ T ≤ 255 := by
    simp [Lit.wf, IntKind.min, IntKind.max, IntKind.signed, IntKind.bits] at w1; omega
  obtain ⟨hN1, hN2⟩ := hN
  obtain ⟨hT1, hT2⟩ := hT
  obtain ⟨D, hDD⟩ : ∃ D, D = -25567 + N % 107000 := ⟨_, rfl⟩
  obtain ⟨k, hk⟩ : ∃ k : Nat, (k : Int) = 1 + T % 50 := ⟨(1 + T % 50).toNat, by omega⟩
  have hd0 : -25567 ≤ D := by omega
  have hd1 : D ≤ 81432 := by omega
  have hk1 : 1 ≤ k := by omega
  have hk2 : k ≤ 50 := by omega
  have HR := fun W => rChk_any q [] none 0 W (.inl rfl)
  have HM := fun W => Minutes_any q [] none 0 D (D + 7 * k) W (.inl rfl) (Nat.le_refl _)
  have HY := fun W => Days_any q [] none 0 D (D + 7 * k) W (.inl rfl) (Nat.le_refl _)
  obtain ⟨W2, hW2⟩ : ∃ W2, W2 = (w.alloc (.cells #[.int .i64 (q 0), .int .i64 (q 1), .int .i64 (q 2), .int .i64 (q 3), .int .i64 (q 4), .int .i64 (q 5), .int .i64 (q 6)] 23)).alloc (.cells #[.int .i64 (q 0), .int .i64 (q 1), .int .i64 (q 2), .int .i64 (q 3), .int .i64 (q 4), .int .i64 (q 5), .int .i64 (q 6), .slice none 0 0] 26) := ⟨_, rfl⟩
  have hza : (w.alloc (.cells #[.int .i64 (q 0), .int .i64 (q 1), .int .i64 (q 2), .int .i64 (q 3), .int .i64 (q 4), .int .i64 (q 5), .int .i64 (q 6)] 23)).heap.size = w.heap.size + 1 := by simp
  have hb0 : Below w.heap.size w W2 := by rw [hW2]; exact ((Below.refl w.heap.size w).alloc (Nat.le_refl _) _).alloc (by simp) _
  have hP : PatBox W2 (w.heap.size + 1) q (.slice none 0 0) := by rw [hW2, ← hza]; exact PatBox.new q _ _ _
  have HX : Hid (∀ j, j < 7 → W2.cell? ⟨w.heap.size, j, none⟩ = some (.int .i64 (q j))) := Lib.hid (fun j hj => by
    rw [hW2, World.cell?_alloc_lt _ _ _ (by rw [hza]; show w.heap.size < _; omega)]
    exact box7 q w _ j hj)
  by_cases hq : chk q [] = 0
  · have hqb := chkW_bd (chk_parts hq).1
    obtain ⟨m1, m2⟩ := whole_mins hq hd0 (show D + 7 * (k : Int) ≤ 84006 by omega)
    have HS := Lib.hid (fun j hj => sum7_bd hqb j hj)
    have HO := Lib.hid (fun j hj => sum7_bd (m := 1) (f := fun i => one (q i)) (fun i _ => one_bd _) j hj)
    have HQ := Lib.hid hqb
    rw [hq] at HR
    rw [m1] at HM
    rw [m2] at HY
    have b1 := HS.out 7 (by omega)
    have b2 := HO.out 7 (by omega)
    have HR := Lib.hid HR
    have HM := Lib.hid HM
    have HY := Lib.hid HY
    have HD1 : Hid (-25567 + N % 107000 = D) := Lib.hid hDD.symm
    have HK1 : Hid (1 + T % 50 = (k : Int)) := Lib.hid hk.symm
    clear m1 m2 hq w0 w1 hza hDD hk
    obtain ⟨z0, z1, z2, z3, z4, z5, z6⟩ := seven HX.out
    go_enter Try.func7, Try.ntmps7
    go_wp2_with fail
    rw [← hW2]
    clear hW2
    refine (HR.out _).mono ?_
    rintro e w3 ⟨rfl, hb3⟩
    have hP3 := hP.below hb3
    have HX3 : Hid (∀ j, j < 7 → w3.cell? ⟨w.heap.size, j, none⟩ = some (.int .i64 (q j))) := Lib.hid (fun j hj => stay hb3 (HX.out j hj))
    have hb4 := hb0.trans (hb3.mono hb0.size)
    clear z0 z1 z2 z3 z4 z5 z6 hP hb0 hb3 HX HR
    go_wp2
    rw [HD1.out, HK1.out]
    go_loop [10, 11, 12] (fun sv dv iv => ∃ j : Nat, j ≤ 7 ∧ iv = .int .i64 j ∧ sv = .int .i64 (sum7 q j) ∧ dv = .int .i64 (sum7 (fun i => one (q i)) j)) (fun _ _ iv => 7 - (RowKit.intOf iv).toNat)
    case atStart => exact ⟨0, by omega, rfl, rfl, rfl⟩
    case round =>
      obtain ⟨j, hj, rfl, rfl, rfl⟩ := hrel
      by_cases hlt : j < 7
      · have xj := HX3.out j hlt
        have hlI : (j : Int) < 7 := by omega
        have g1 := HS.out j (by omega)
        have g2 := HO.out j (by omega)
        have g3 := HQ.out j hlt
        have e1 : Hid (sum7 q j + q j = sum7 q (j + 1)) := Lib.hid rfl
        have e2 : Hid (sum7 (fun i => one (q i)) j + one (q j) = sum7 (fun i => one (q i)) (j + 1)) := Lib.hid rfl
        generalize sum7 q j = S at *
        generalize sum7 (fun i => one (q i)) j = O at *
        generalize hy0 : q j = y at *
        clear hy0
        by_cases hy : 0 < y
        · have e3 := one_pos hy
          rw [e3] at e2
          clear e3
          go_wp2
          go_round
          case rel => exact ⟨j + 1, by omega, by go_num, congrArg (Value.int .i64) e1.out, congrArg (Value.int .i64) e2.out⟩
          case measure => simp [RowKit.intOf]; omega
        · obtain ⟨e0, e3⟩ := one_zero g3.1 hy
          rw [e3] at e2
          clear e3 e0
          go_wp2
          go_round
          case rel => exact ⟨j + 1, by omega, by go_num, congrArg (Value.int .i64) e1.out, congrArg (Value.int .i64) ((Int.add_zero _).symm.trans e2.out)⟩
          case measure => simp [RowKit.intOf]; omega
      · obtain rfl : j = 7 := by omega
        clear HS HO HQ HX3 HK1 HD1
        generalize sum7 q 7 = S at *
        generalize sum7 (fun i => one (q i)) 7 = O at *
        have m1 : 0 ≤ (k : Int) * S := Int.mul_nonneg (by omega) b1.1
        have m2 : (k : Int) * S ≤ 50 * 10080 := Int.mul_le_mul (by omega) (by omega) b1.1 (by omega)
        have m3 : 0 ≤ (k : Int) * O := Int.mul_nonneg (by omega) b2.1
        have m4 : (k : Int) * O ≤ 50 * 7 := Int.mul_le_mul (by omega) (by omega) b2.1 (by omega)
        obtain ⟨W4, hW4⟩ : ∃ W4, W4 = w3.alloc (.cells #[.int .i64 D, .int .i64 (D + 7 * (k : Int))] 37) := ⟨_, rfl⟩
        have hb5 : Below w3.heap.size w3 W4 := by rw [hW4]; exact (Below.refl w3.heap.size w3).alloc (Nat.le_refl _) _
        have hP4 := hP3.below hb5
        have s0 : W4.cell? ⟨w3.heap.size, 0, none⟩ = some (.int .i64 D) := by rw [hW4, World.cell?_alloc_new]; rfl
        have s1 : W4.cell? ⟨w3.heap.size, 1, none⟩ = some (.int .i64 (D + 7 * (k : Int))) := by rw [hW4, World.cell?_alloc_new]; rfl
        have hb6 := hb4.trans (hb5.mono hb4.size)
        obtain ⟨z0, z1, z2, z3, z4, z5, z6, z7⟩ := hP3.all
        obtain ⟨x0, x1, x2, x3, x4, x5, x6, x7⟩ := hP4.all
        clear hP3 hb5 hb4
        rw [hW4] at x0 x1 x2 x3 x4 x5 x6 x7 s0 s1
        go_wp2_with fail
        rw [← hW4] at x0 x1 x2 x3 x4 x5 x6 x7 s0 s1 ⊢
        clear hW4
        refine (HM.out _).mono ?_
        rintro e w5 ⟨rfl, hb7⟩
        have hP5 := hP4.below hb7
        have t0 := stay hb7 s0
        have t1 := stay hb7 s1
        have hb8 := hb6.trans (hb7.mono hb6.size)
        clear z0 z1 z2 z3 z4 z5 z6 z7 x0 x1 x2 x3 x4 x5 x6 x7 s0 s1 hb6 hb7 hP4
        obtain ⟨z0, z1, z2, z3, z4, z5, z6, z7⟩ := hP5.all
        go_wp2_with fail
        refine (HY.out _).mono ?_
        rintro e w6 ⟨rfl, hb9⟩
        have hb10 := hb8.trans (hb9.mono hb8.size)
        clear z0 z1 z2 z3 z4 z5 z6 z7 t0 t1
        go_wp2_with fail
        refine (awake_any _).mono ?_
        rintro e w7 ⟨rfl, hb11⟩
        have hb12 := hb10.trans (hb11.mono hb10.size)
        go_wp2
        go_ret
        exact ⟨rfl, hb12⟩
  · have HR : ∀ W : World, Calls Try.prog 10 #[.agg #[.int .i64 (q 0), .int .i64 (q 1), .int .i64 (q 2), .int .i64 (q 3), .int .i64 (q 4), .int .i64 (q 5), .int .i64 (q 6)], .slice none 0 0] W fun e w' => e = .returned (.int .i64 (chk q [])) ∧ Below W.heap.size W w' := HR
    have e1 : (chk q [] != 0) = true := by simpa using hq
    generalize chk q [] = K at *
    have HR := Lib.hid HR
    clear HM HY hP w0 w1 hza hq hDD hk
    obtain ⟨z0, z1, z2, z3, z4, z5, z6⟩ := seven HX.out
    go_enter Try.func7, Try.ntmps7
    go_wp2_with fail
    rw [← hW2]
    clear hW2
    refine (HR.out _).mono ?_
    rintro e w3 ⟨rfl, hb3⟩
    have hb4 := hb0.trans (hb3.mono hb0.size)
    go_wp2_with fail
    refine (awake_any _).mono ?_
    rintro e w4 ⟨rfl, hb5⟩
    have hb6 := hb4.trans (hb5.mono hb4.size)
    go_wp2
    go_ret
    exact ⟨rfl, hb6⟩

end Go.Proofs.Ytcpibhjildfodaa
