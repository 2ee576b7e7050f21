/-
  What is proved: the walk of the statement ProrateLost: the call returns true. Conditions: what came in is as the frame says.
-/
import Derived.Test.YtamglmenljgbdaaPrH
import Derived.Test.YtamglmenljgbdaaPrMb
import Derived.Test.YtamglmenljgbdaaFrameR
namespace Go.Proofs.Ytamglmenljgbdaa
open Go Go.RowKit Go.Proofs
set_option linter.unusedVariables false

set_option maxHeartbeats 8000000 in
set_option maxRecDepth 100000 in
theorem walkProrateLost (y i n a b q c m l r p z : Int) (w : World) (hp : in64 y ∧ in64 i ∧ in64 n ∧ in64 a ∧ in64 b ∧ in64 q) (_ : (Lit.int .i64 c).wf = true) (_ : (Lit.int .i64 m).wf = true) (_ : (Lit.int .i64 l).wf = true) (_ : (Lit.int .i64 r).wf = true) (_ : (Lit.int .i64 p).wf = true) (_ : (Lit.int .i64 z).wf = true) :
    Calls Try.prog 5 #[.agg #[.int .i64 y, .int .i64 i, .int .i64 n, .int .i64 a, .int .i64 b, .int .i64 q], .int .i64 c, .int .i64 m, .int .i64 l, .int .i64 r, .int .i64 p, .int .i64 z] w fun e w' => e = .returned (.bool true) ∧ Below w.heap.size w w' := by
  obtain ⟨-, -, -, ha, hb, -⟩ := hp
  have HA := Lib.hid (fun W => Loss_any y i n a b q c m m 0 W ha hb)
  have HN := Lib.hid (fun W => Loss_any y i n a b q c m 0 0 W ha hb)
  have HU := Lib.hid (fun W => Loss_any y i n a b q c m m 1000000 W ha hb)
  have HX := Lib.hid (fun W => Loss_any y i n a b q c m l p W ha hb)
  have HY := Lib.hid (fun W => Loss_any y i n a b q c m r p W ha hb)
  have HZ := Lib.hid (fun W => Loss_any y i n a b q c m l z W ha hb)
  generalize kk a b = k at HA HN HU HX HY HZ
  have HP0 := Lib.hid (show P6 (w.alloc (.cells #[.int .i64 y, .int .i64 i, .int .i64 n, .int .i64 a, .int .i64 b, .int .i64 q] 26)) w.heap.size y i n a b q by unfold P6; refine ⟨?_, ?_, ?_, ?_, ?_, ?_⟩ <;> (rw [World.cell?_alloc_new]; rfl))
  have hk0 := (Below.refl w.heap.size w).alloc (Nat.le_refl _) (.cells #[.int .i64 y, .int .i64 i, .int .i64 n, .int .i64 a, .int .i64 b, .int .i64 q] 26)
  by_cases e0 : (lossVE k c m m 0).2 = 0
  · have ho := loss_ok e0
    obtain ⟨hf, o1, o2, o3, o4, o5, o6⟩ := id ho
    have en := loss_no (k := k) (c := c) (m := m) (l := 0) (p := 0) ⟨hf, o1, o2, by omega, by omega, by omega, by omega⟩ (by rw [Int.zero_mul])
    have eu := loss_no (k := k) (c := c) (m := m) (l := m) (p := 1000000) ⟨hf, o1, o2, o3, by omega, by omega, by omega⟩ (by rw [Int.sub_self, Int.mul_zero])
    rw [en] at HN
    rw [eu] at HU
    have hall : 0 < m → (lossVE k c m m 0).1 = c := fun h => by rw [loss_all ho h]
    have hB := fun (h0 : 0 ≤ c) (hx : (lossVE k c m l p).2 = 0) => loss_bd h0 e0 hx
    have hY := fun (h0 : 0 ≤ c) (hx : (lossVE k c m l p).2 = 0) (hy : (lossVE k c m r p).2 = 0) (hm : ¬ r < l) => loss_mono (k := k) (c := c) (m := m) (l := l) (p := p) (l' := r) (p' := p) h0 hx hy (by
      obtain ⟨-, -, -, -, -, g3, g4⟩ := loss_ok hx
      exact Int.mul_le_mul_of_nonneg_right (by omega) (by omega))
    have hZ := fun (h0 : 0 ≤ c) (hx : (lossVE k c m l p).2 = 0) (hz : (lossVE k c m l z).2 = 0) (hm : ¬ z < p) => loss_mono (k := k) (c := c) (m := m) (l := l) (p := z) (l' := l) (p' := p) h0 hz hx (by
      obtain ⟨-, -, -, g1, -, -, -⟩ := loss_ok hx
      exact Int.mul_le_mul_of_nonneg_left (by omega) (by omega))
    rw [e0] at HA
    dsimp only at HN HU
    clear ho hf o1 o2 o3 o4 o5 o6 en eu e0
    generalize (lossVE k c m m 0).1 = AV at *
    generalize (lossVE k c m l p).1 = XV at *
    generalize (lossVE k c m l p).2 = XE at *
    generalize (lossVE k c m r p).1 = YV at *
    generalize (lossVE k c m r p).2 = YE at *
    generalize (lossVE k c m l z).1 = ZV at *
    generalize (lossVE k c m l z).2 = ZE at *
    have d1 : (0 < m ∧ (AV != c) = false) ∨ ¬ 0 < m := by
      by_cases h : 0 < m
      · exact .inl ⟨h, by rw [hall h]; simp⟩
      · exact .inr h
    clear hall
    have d2 : ((XE != 0) = true) ∨ ((XE != 0) = false ∧ c < 0) ∨ ((XE != 0) = false ∧ ¬ c < 0 ∧ 0 ≤ XV ∧ XV ≤ c ∧ ((YE != 0) = true ∨ ((YE != 0) = false ∧ r < l) ∨ ((YE != 0) = false ∧ ¬ r < l ∧ XV ≤ YV)) ∧ ((ZE != 0) = true ∨ ((ZE != 0) = false ∧ z < p) ∨ ((ZE != 0) = false ∧ ¬ z < p ∧ ZV ≤ XV))) := by
      by_cases hx : XE = 0
      · have hx' : (XE != 0) = false := by simp [hx]
        by_cases hc : c < 0
        · exact .inr (.inl ⟨hx', hc⟩)
        · have hb := hB (by omega) hx
          refine .inr (.inr ⟨hx', hc, hb.1, hb.2, ?_, ?_⟩)
          · by_cases hy : YE = 0
            · have hy' : (YE != 0) = false := by simp [hy]
              by_cases hm : r < l
              · exact .inr (.inl ⟨hy', hm⟩)
              · exact .inr (.inr ⟨hy', hm, hY (by omega) hx hy hm⟩)
            · exact .inl (by simpa using hy)
          · by_cases hz : ZE = 0
            · have hz' : (ZE != 0) = false := by simp [hz]
              by_cases hm : z < p
              · exact .inr (.inl ⟨hz', hm⟩)
              · exact .inr (.inr ⟨hz', hm, hZ (by omega) hx hz hm⟩)
            · exact .inl (by simpa using hz)
      · exact .inl (by simpa using hx)
    clear hB hY hZ
    rcases d1 with ⟨d1, d1'⟩ | d1
    all_goals
      rcases d2 with d2 | ⟨d2, d3⟩ | ⟨d2, d3, d4, d5, d6, d7⟩
      rotate_left 2
      · rcases d6 with d6 | ⟨d6, d8⟩ | ⟨d6, d8, d9⟩
        all_goals rcases d7 with d7 | ⟨d7, d10⟩ | ⟨d7, d10, d11⟩
        all_goals
          go_enter Try.func5, Try.ntmps5
          go_wp2_with fail
          refine (awake_any _).mono ?_
          rintro e w1 ⟨rfl, hb1⟩
          have hk1 := hk0.trans (hb1.mono hk0.size)
          have HP1 := Lib.hid (HP0.out.kp hb1)
          obtain ⟨f0, f1, f2, f3, f4, f5⟩ := HP1.out
          go_wp2_with fail
          refine (HA.out _).mono ?_
          rintro e w2 ⟨rfl, hb2⟩
          have hk2 := hk1.trans (hb2.mono hk1.size)
          clear f0 f1 f2 f3 f4 f5
          have HP2 := Lib.hid (HP1.out.kp hb2)
          obtain ⟨f0, f1, f2, f3, f4, f5⟩ := HP2.out
          go_wp2_with fail
          refine (HN.out _).mono ?_
          rintro e w3 ⟨rfl, hb3⟩
          have hk3 := hk2.trans (hb3.mono hk2.size)
          clear f0 f1 f2 f3 f4 f5
          have HP3 := Lib.hid (HP2.out.kp hb3)
          obtain ⟨f0, f1, f2, f3, f4, f5⟩ := HP3.out
          go_wp2_with fail
          refine (HU.out _).mono ?_
          rintro e w4 ⟨rfl, hb4⟩
          have hk4 := hk3.trans (hb4.mono hk3.size)
          clear f0 f1 f2 f3 f4 f5
          have HP4 := Lib.hid (HP3.out.kp hb4)
          obtain ⟨f0, f1, f2, f3, f4, f5⟩ := HP4.out
          go_wp2_with fail
          refine (HX.out _).mono ?_
          rintro e w5 ⟨rfl, hb5⟩
          have hk5 := hk4.trans (hb5.mono hk4.size)
          clear f0 f1 f2 f3 f4 f5
          have HP5 := Lib.hid (HP4.out.kp hb5)
          obtain ⟨f0, f1, f2, f3, f4, f5⟩ := HP5.out
          go_wp2_with fail
          refine (HY.out _).mono ?_
          rintro e w6 ⟨rfl, hb6⟩
          have hk6 := hk5.trans (hb6.mono hk5.size)
          clear f0 f1 f2 f3 f4 f5
          have HP6 := Lib.hid (HP5.out.kp hb6)
          obtain ⟨f0, f1, f2, f3, f4, f5⟩ := HP6.out
          go_wp2_with fail
          refine (HZ.out _).mono ?_
          rintro e w7 ⟨rfl, hb7⟩
          have hk7 := hk6.trans (hb7.mono hk6.size)
          clear f0 f1 f2 f3 f4 f5
          have HP7 := Lib.hid (HP6.out.kp hb7)
          go_wp2
          go_ret
          exact ⟨rfl, hk7⟩
      all_goals
        go_enter Try.func5, Try.ntmps5
        go_wp2_with fail
        refine (awake_any _).mono ?_
        rintro e w1 ⟨rfl, hb1⟩
        have hk1 := hk0.trans (hb1.mono hk0.size)
        have HP1 := Lib.hid (HP0.out.kp hb1)
        obtain ⟨f0, f1, f2, f3, f4, f5⟩ := HP1.out
        go_wp2_with fail
        refine (HA.out _).mono ?_
        rintro e w2 ⟨rfl, hb2⟩
        have hk2 := hk1.trans (hb2.mono hk1.size)
        clear f0 f1 f2 f3 f4 f5
        have HP2 := Lib.hid (HP1.out.kp hb2)
        obtain ⟨f0, f1, f2, f3, f4, f5⟩ := HP2.out
        go_wp2_with fail
        refine (HN.out _).mono ?_
        rintro e w3 ⟨rfl, hb3⟩
        have hk3 := hk2.trans (hb3.mono hk2.size)
        clear f0 f1 f2 f3 f4 f5
        have HP3 := Lib.hid (HP2.out.kp hb3)
        obtain ⟨f0, f1, f2, f3, f4, f5⟩ := HP3.out
        go_wp2_with fail
        refine (HU.out _).mono ?_
        rintro e w4 ⟨rfl, hb4⟩
        have hk4 := hk3.trans (hb4.mono hk3.size)
        clear f0 f1 f2 f3 f4 f5
        have HP4 := Lib.hid (HP3.out.kp hb4)
        obtain ⟨f0, f1, f2, f3, f4, f5⟩ := HP4.out
        go_wp2_with fail
        refine (HX.out _).mono ?_
        rintro e w5 ⟨rfl, hb5⟩
        have hk5 := hk4.trans (hb5.mono hk4.size)
        clear f0 f1 f2 f3 f4 f5
        have HP5 := Lib.hid (HP4.out.kp hb5)
        obtain ⟨f0, f1, f2, f3, f4, f5⟩ := HP5.out
        go_wp2_with fail
        refine (HY.out _).mono ?_
        rintro e w6 ⟨rfl, hb6⟩
        have hk6 := hk5.trans (hb6.mono hk5.size)
        clear f0 f1 f2 f3 f4 f5
        have HP6 := Lib.hid (HP5.out.kp hb6)
        obtain ⟨f0, f1, f2, f3, f4, f5⟩ := HP6.out
        go_wp2_with fail
        refine (HZ.out _).mono ?_
        rintro e w7 ⟨rfl, hb7⟩
        have hk7 := hk6.trans (hb7.mono hk6.size)
        clear f0 f1 f2 f3 f4 f5
        have HP7 := Lib.hid (HP6.out.kp hb7)
        go_wp2
        go_ret
        exact ⟨rfl, hk7⟩
  · have hv := loss_err e0
    rw [hv] at HA
    clear hv
    generalize (lossVE k c m m 0).2 = AE at *
    have hE : (AE != 0) = true := by simpa using e0
    clear HN HU HX HY HZ
    go_enter Try.func5, Try.ntmps5
    go_wp2_with fail
    refine (awake_any _).mono ?_
    rintro e w1 ⟨rfl, hb1⟩
    have hk1 := hk0.trans (hb1.mono hk0.size)
    have HP1 := Lib.hid (HP0.out.kp hb1)
    obtain ⟨f0, f1, f2, f3, f4, f5⟩ := HP1.out
    go_wp2_with fail
    refine (HA.out _).mono ?_
    rintro e w2 ⟨rfl, hb2⟩
    have hk2 := hk1.trans (hb2.mono hk1.size)
    clear f0 f1 f2 f3 f4 f5
    have HP2 := Lib.hid (HP1.out.kp hb2)
    go_wp2
    go_ret
    exact ⟨rfl, hk2⟩

end Go.Proofs.Ytamglmenljgbdaa
