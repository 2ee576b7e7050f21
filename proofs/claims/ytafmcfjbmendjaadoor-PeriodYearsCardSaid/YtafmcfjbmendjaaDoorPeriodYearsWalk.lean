/-
  What is proved: the walk of the statement PeriodYears: the call returns true. Conditions: the tables read as their texts lay them.
-/
import Derived.Test.YtafmcfjbmendjaaDoorPdY
namespace Go.Proofs.YtafmcfjbmendjaaDoor
open Go Go.RowKit Go.Proofs
set_option linter.unusedVariables false

set_option maxHeartbeats 2000000 in
set_option maxRecDepth 100000 in
theorem walkPeriodYears (k f l y : Int) (w : World) (wc : (-9223372036854775808 ≤ k ∧ k ≤ 9223372036854775807) ∧ (-9223372036854775808 ≤ f ∧ f ≤ 9223372036854775807) ∧ (-9223372036854775808 ≤ l ∧ l ≤ 9223372036854775807)) (w0 : (Lit.int .i64 y).wf = true) (hT : Tab3 w) :
    Calls Tryd.prog 4 #[.agg #[.int .i64 k, .int .i64 f, .int .i64 l], .int .i64 y] w fun e w' => e = .returned (.bool true) ∧ Below w.heap.size w w' := by
  have HO := Lib.hid (of_any k f l)
  have HC := fun W hL => Check_any k f l W hL
  have HRC := rCheck_any k f l
  have HY := Lib.hid (fun W hT => Year_any k f l y W hT)
  have HRY := fun W h1 h2 h3 => rYear_any k f l y W h1 h2 h3
  obtain ⟨C, hC⟩ : ∃ C, C = chkC k f l := ⟨_, rfl⟩
  rw [← hC] at HC HRC
  have HCC := Lib.hid hC
  have HC := Lib.hid HC
  have HRC := Lib.hid HRC
  have HRY := Lib.hid HRY
  obtain ⟨W1, hW1⟩ : ∃ W1, W1 = w.alloc (.cells #[.int .i64 k, .int .i64 f, .int .i64 l] 24) := ⟨_, rfl⟩
  have hb0 : Below w.heap.size w W1 := by rw [hW1]; exact (Below.refl w.heap.size w).alloc (Nat.le_refl _) _
  have x0 : W1.cell? ⟨w.heap.size, 0, none⟩ = some (.int .i64 k) := by rw [hW1, World.cell?_alloc_new]; rfl
  have x1 : W1.cell? ⟨w.heap.size, 1, none⟩ = some (.int .i64 f) := by rw [hW1, World.cell?_alloc_new]; rfl
  have x2 : W1.cell? ⟨w.heap.size, 2, none⟩ = some (.int .i64 l) := by rw [hW1, World.cell?_alloc_new]; rfl
  have T1 := Lib.hid (hT.stay hb0)
  clear hC hT w0 wc
  go_enter Tryd.func4, Tryd.ntmps4
  go_wp2_with fail
  rw [← hW1]
  clear hW1
  refine (HO.out _).mono ?_
  rintro e w2 ⟨rfl, hb2⟩
  go_wp2_with fail
  refine (HRC.out _).mono ?_
  rintro e w3 ⟨rfl, hb3⟩
  have hb4 := hb2.trans (hb3.mono hb2.size)
  have T4 := Lib.hid (T1.out.stay hb4)
  have y0 := stay hb4 x0
  have y1 := stay hb4 x1
  have y2 := stay hb4 x2
  have hb5 := hb0.trans (hb4.mono hb0.size)
  clear x0 x1 x2 hb0 hb2 hb3 hb4 T1
  go_wp2_with fail
  refine (HY.out _ T4.out.1).mono ?_
  rintro e w6 ⟨K, p, c, E, rfl, hE, hP, hb6⟩
  have HE := Lib.hid hE
  have HP := Lib.hid hP
  have T6 := Lib.hid (T4.out.stay hb6)
  have x0 := stay hb6 y0
  have x1 := stay hb6 y1
  have x2 := stay hb6 y2
  have hb7 := hb5.trans (hb6.mono hb5.size)
  clear y0 y1 y2 hb5 hb6 T4 hE hP
  go_wp2_with fail
  refine (HC.out _ T6.out.1.1).mono ?_
  rintro e w8 ⟨rfl, hb8⟩
  have T8 := Lib.hid (T6.out.stay hb8)
  have HP8 := Lib.hid (HP.out.below hb8)
  have y0 := stay hb8 x0
  have y1 := stay hb8 x1
  have y2 := stay hb8 x2
  have hb9 := hb7.trans (hb8.mono hb7.size)
  have e0 : (C != C) = false := by simp
  clear x0 x1 x2 hb7 hb8 T6 HP HY HC HRC
  rcases HE.out with ⟨hc, he, hK⟩ | ⟨hc, hy, he, hK⟩ | ⟨hc, hy1, hy2, he, hK⟩
  · rw [← HCC.out] at hc he
    have e1 : (C == 0) = false := by simpa using hc
    have e2 : (C != 0) = true := by simpa using hc
    subst he
    subst hK
    clear hc HE HP8
    simp only [List.length_nil]
    go_wp2_with fail
    refine (awake_any _ T8.out).mono ?_
    rintro e w10 ⟨rfl, hb10⟩
    have hb11 := hb9.trans (hb10.mono hb9.size)
    go_wp2
    go_ret
    exact ⟨by simp, hb11⟩
  · rw [← HCC.out] at hc
    subst hc
    subst he
    subst hK
    clear HE HP8
    simp only [List.length_nil]
    rcases Int.lt_or_le y 1900 with h1 | h1
    · clear hy
      go_wp2_with fail
      refine (awake_any _ T8.out).mono ?_
      rintro e w10 ⟨rfl, hb10⟩
      have hb11 := hb9.trans (hb10.mono hb9.size)
      go_wp2
      go_ret
      exact ⟨rfl, hb11⟩
    · have h2 : 2199 < y := by omega
      clear hy
      go_wp2_with fail
      refine (awake_any _ T8.out).mono ?_
      rintro e w10 ⟨rfl, hb10⟩
      have hb11 := hb9.trans (hb10.mono hb9.size)
      go_wp2
      go_ret
      exact ⟨rfl, hb11⟩
  · have HCZ := Lib.hid hc
    rw [← HCC.out] at hc
    subst hc
    subst he
    have HK := Lib.hid hK
    have hKl := hK.len
    have hy3 : ¬ y < 1900 := by omega
    have hy4 : ¬ 2199 < y := by omega
    clear HE hK
    go_wp2_with fail
    refine (awake_any _ T8.out).mono ?_
    rintro e w10 ⟨rfl, hb10⟩
    have x0 := stay hb10 y0
    have x1 := stay hb10 y1
    have x2 := stay hb10 y2
    have HP10 := Lib.hid (HP8.out.below hb10)
    have hb11 := hb9.trans (hb10.mono hb9.size)
    clear y0 y1 y2 hb9 hb10 HP8
    go_wp2_with fail
    refine (HO.out _).mono ?_
    rintro e w12 ⟨rfl, hb12⟩
    have HP12 := Lib.hid (HP10.out.below hb12)
    have hb13 := hb11.trans (hb12.mono hb11.size)
    clear x0 x1 x2 hb11 hb12 HP10
    go_wp2_with fail
    refine (HRY.out _ HCZ.out hy1 hy2).mono ?_
    rintro e w14 ⟨K', p', c', hK', rfl, hP', hb14⟩
    obtain rfl := hK'.one HK.out
    have HP14 := Lib.hid (HP12.out.below hb14)
    have HQ := Lib.hid hP'
    have hb15 := hb13.trans (hb14.mono hb13.size)
    clear hK' hP' hb13 hb14 HP12
    go_wp2_with fail
    refine (same_any _ _ _ _ _ _ _ _ hKl HP14.out HQ.out).mono ?_
    rintro e w16 ⟨rfl, hb16⟩
    have hb17 := hb15.trans (hb16.mono hb15.size)
    go_wp2
    go_ret
    exact ⟨rfl, hb17⟩

end Go.Proofs.YtafmcfjbmendjaaDoor
