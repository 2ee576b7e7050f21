/-
  What is proved: the contract of the document's own Add of months. Conditions: as it says.
-/
import Derived.Test.YtajhabnepodpbaaDoorCivAwake
namespace Go.Proofs.YtajhabnepodpbaaDoor
open Go Go.RowKit Go.Proofs

/-- A date lies in block g, and may be written. -/
def DatO (g : Nat) (y m d : Int) (w : World) : Prop := (w.cell? ⟨g, 0, none⟩ = some (.int .i64 y) ∧ w.cell? ⟨g, 1, none⟩ = some (.int .i64 m) ∧ w.cell? ⟨g, 2, none⟩ = some (.int .i64 d)) ∧ w.frozen? ⟨g, 0, none⟩ = false ∧ w.frozen? ⟨g, 1, none⟩ = false ∧ w.frozen? ⟨g, 2, none⟩ = false
theorem DatO.new (y m d : Int) (w : World) (t : TypeId) : DatO w.heap.size y m d (w.alloc (.cells #[.int .i64 y, .int .i64 m, .int .i64 d] t)) := ⟨new3 w _ _ _ _, newf3 w _ _ _ _⟩
theorem set_in {w : World} {g i : Nat} {u v : Value} (h : w.cell? ⟨g, i, none⟩ = some u) : (w.setCell ⟨g, i, none⟩ v).cell? ⟨g, i, none⟩ = some v := World.cell?_setCell_same w _ _ h
theorem set_off {w : World} {g i j : Nat} {v : Value} (h : i ≠ j) : (w.setCell ⟨g, i, none⟩ v).cell? ⟨g, j, none⟩ = w.cell? ⟨g, j, none⟩ := World.cell?_setCell_other w _ _ _ (by intro e; injection e; omega)
theorem DatO.set0 {g : Nat} {y m d : Int} {w : World} (h : DatO g y m d w) (v : Int) : DatO g v m d (w.setCell ⟨g, 0, none⟩ (.int .i64 v)) := by
  obtain ⟨⟨a, b, c⟩, e, f, k⟩ := h
  exact ⟨⟨set_in a, (set_off (by omega)).trans b, (set_off (by omega)).trans c⟩, (World.frozen?_setCell ..).trans e, (World.frozen?_setCell ..).trans f, (World.frozen?_setCell ..).trans k⟩
theorem DatO.set1 {g : Nat} {y m d : Int} {w : World} (h : DatO g y m d w) (v : Int) : DatO g y v d (w.setCell ⟨g, 1, none⟩ (.int .i64 v)) := by
  obtain ⟨⟨a, b, c⟩, e, f, k⟩ := h
  exact ⟨⟨(set_off (by omega)).trans a, set_in b, (set_off (by omega)).trans c⟩, (World.frozen?_setCell ..).trans e, (World.frozen?_setCell ..).trans f, (World.frozen?_setCell ..).trans k⟩

set_option maxHeartbeats 1000000 in
theorem radd_far (y m d N n : Int) (h : okB y m d = true) (hn : num y m d = N) (hb : n < -4000 ∨ 4000 < n) (w : World) : Calls Tryd.prog 24 #[.int .i64 N, .int .i64 n] w fun e w' => e = .returned (.int .i64 (addM y m d n)) ∧ Below w.heap.size w w' := by
  have HT := Lib.hid (rto_yes y m d N h hn)
  obtain ⟨y1, y2, m1, m2, d1, d2⟩ := okB_iff.1 h
  obtain ⟨k1, k2⟩ := monN_bd y1 y2 m1 m2
  clear hn h
  rcases hb with hb | hb
  · have hb2 : ¬ 4000 < n := by omega
    rw [show addM y m d n = -25567 by unfold addM; rw [if_pos (by omega)]]
    go_enter Tryd.func24, Tryd.ntmps24
    go_wp2_with fail
    refine (HT.out _).mono ?_
    rintro e w1 ⟨rfl, hb1⟩
    go_wp2
    go_ret
    exact ⟨rfl, hb1.alloc hb1.size _⟩
  · rw [show addM y m d n = 84005 by unfold addM; rw [if_neg (by omega), if_pos (by omega)]]
    go_enter Tryd.func24, Tryd.ntmps24
    go_wp2_with fail
    refine (HT.out _).mono ?_
    rintro e w1 ⟨rfl, hb1⟩
    go_wp2
    go_ret
    exact ⟨rfl, hb1.alloc hb1.size _⟩

theorem add_at {y m d n Y M : Int} (hT : (Y - 1900) * 12 + M - 1 = monN y m + n) (M1 : 1 ≤ M) (M2 : M ≤ 12) :
    (Y < 1900 → addM y m d n = -25567) ∧ (¬ Y < 1900 → 2199 < Y → addM y m d n = 84005) ∧ (¬ Y < 1900 → ¬ 2199 < Y → addM y m d n = num Y M (min d (dim Y M))) := by
  refine ⟨fun h => ?_, fun h h' => ?_, fun h h' => ?_⟩
  · unfold addM; rw [if_pos (by omega)]
  · unfold addM; rw [if_neg (by omega), if_pos (by omega)]
  · unfold addM; rw [if_neg (by omega), if_neg (by omega), show 1900 + (monN y m + n) / 12 = Y by omega, show (monN y m + n) % 12 + 1 = M by omega]

theorem rmonth3f (p q : Int) (g : Nat) (x0 x1 x2 : Value) (w : World) (h0 : w.cell? ⟨g, 0, none⟩ = some x0) (h1 : w.cell? ⟨g, 1, none⟩ = some x1) (h2 : w.cell? ⟨g, 2, none⟩ = some x2) (h3 : w.frozen? ⟨g, 2, none⟩ = false) :
    Calls Tryd.prog 15 #[.int .i64 p, .int .i64 q] w fun e w' => e = .returned (.int .i64 (mdV p q)) ∧ w'.cell? ⟨g, 0, none⟩ = some x0 ∧ w'.cell? ⟨g, 1, none⟩ = some x1 ∧ w'.cell? ⟨g, 2, none⟩ = some x2 ∧ w'.frozen? ⟨g, 2, none⟩ = false ∧ Below w.heap.size w w' :=
  (rmonth_any p q w).mono fun _ _ ⟨h, hb⟩ => by
    have hg : g < w.heap.size := World.block_lt_of_cell? w _ h0
    exact ⟨h, (bcell hb g 0 hg).trans h0, (bcell hb g 1 hg).trans h1, (bcell hb g 2 hg).trans h2, (hb.frozen (p := ⟨g, 2, none⟩) hg).trans h3, hb⟩

set_option maxHeartbeats 2000000 in
theorem radd_near (y m d N n : Int) (h : okB y m d = true) (hn : num y m d = N) (n1 : -4000 ≤ n) (n2 : n ≤ 4000) (w : World) : Calls Tryd.prog 24 #[.int .i64 N, .int .i64 n] w fun e w' => e = .returned (.int .i64 (addM y m d n)) ∧ Below w.heap.size w w' := by
  have HT := Lib.hid (rto_yes y m d N h hn)
  obtain ⟨y1, y2, m1, m2, d1, d2⟩ := okB_iff.1 h
  obtain ⟨k1, k2⟩ := monN_bd y1 y2 m1 m2
  have hdb := dim_bd y m
  have dd3 : d ≤ 31 := by omega
  obtain ⟨T, hT⟩ : ∃ T, T = monN y m + n := ⟨_, rfl⟩
  have t1 : -4000 ≤ T := by omega
  have t2 : T ≤ 7600 := by omega
  have HTT := Lib.hid hT
  have HM0 : Hid ((y - 1900) * 12 + m - 1 + n = T) := Lib.hid (by rw [hT]; rfl)
  obtain ⟨R, hR⟩ : ∃ R, R = addM y m d n := ⟨_, rfl⟩
  rw [← hR]
  have HR := Lib.hid hR
  clear hn h hT k1 k2 hdb d2 hR
  go_enter Tryd.func24, Tryd.ntmps24
  go_wp2_with fail
  refine (HT.out _).mono ?_
  rintro e w1 ⟨rfl, hb1⟩
  have HD0 := Lib.hid (DatO.new y m d w1 30)
  have hB0 := hb1.alloc hb1.size (.cells #[.int .i64 y, .int .i64 m, .int .i64 d] 30)
  have hz := hb1.size
  have hz2 : w1.heap.size < (w1.alloc (.cells #[.int .i64 y, .int .i64 m, .int .i64 d] 30)).heap.size := by simp
  clear hb1 HT
  go_wp2
  generalize w1.heap.size = g at HD0 hz hz2 ⊢
  generalize w1.alloc (.cells #[.int .i64 y, .int .i64 m, .int .i64 d] 30) = w2 at HD0 hB0 hz2 ⊢
  go_loopw [1] (fun nv wr => ∃ j Y M : Int, -4000 ≤ j ∧ j ≤ 4000 ∧ 1 ≤ M ∧ M ≤ 12 ∧ 1000 ≤ Y ∧ Y ≤ 3000 ∧ nv = .int .i64 j ∧ Hid ((Y - 1900) * 12 + M - 1 + j = T) ∧ Hid (DatO g Y M d wr) ∧ Below w.heap.size w wr ∧ g < wr.heap.size) (fun nv _ => (RowKit.intOf nv).toNat)
  case atStart => exact ⟨n, y, m, n1, n2, m1, m2, by omega, by omega, rfl, HM0, HD0, hB0, hz2⟩
  case round =>
    clear HM0 HD0 hB0 hz2
    obtain ⟨j, Y, M, j1, j2, M1, M2, Y1, Y2, rfl, HE, HD, hB, hz2⟩ := hrel
    by_cases hj : 0 < j
    · obtain ⟨⟨c0, c1, c2⟩, f0, f1, f2⟩ := HD.out
      by_cases hM : M = 12
      · subst hM
        have HD2 : Hid (DatO g (Y + 1) 1 d (((wr.setCell ⟨g, 1, none⟩ (.int .i64 13)).setCell ⟨g, 0, none⟩ (.int .i64 (Y + 1))).setCell ⟨g, 1, none⟩ (.int .i64 1))) := Lib.hid (((HD.out.set1 13).set0 (Y + 1)).set1 1)
        have hE := HE.out
        have hY : Y ≤ 2600 := by omega
        clear hE
        go_wp2
        refine ⟨⟨j - 1, Y + 1, 1, by omega, by omega, by omega, by omega, by omega, by omega, rfl, Lib.hid (by have := HE.out; omega), HD2, ((hB.setCell hz _).setCell hz _).setCell hz _, by simpa [World.setCell] using hz2⟩, by simp [RowKit.intOf]; omega⟩
      · have hM13 : (M + 1 == 13) = false := by simp; omega
        have HD2 : Hid (DatO g Y (M + 1) d (wr.setCell ⟨g, 1, none⟩ (.int .i64 (M + 1)))) := Lib.hid (HD.out.set1 (M + 1))
        go_wp2
        refine ⟨⟨j - 1, Y, M + 1, by omega, by omega, by omega, by omega, by omega, by omega, rfl, Lib.hid (by have := HE.out; omega), HD2, hB.setCell hz _, by simpa [World.setCell] using hz2⟩, by simp [RowKit.intOf]; omega⟩
    · have hj0 : j ≤ 0 := by omega
      go_wp2
      go_loopw [1] (fun nv wr => ∃ j Y M : Int, -4000 ≤ j ∧ j ≤ 0 ∧ 1 ≤ M ∧ M ≤ 12 ∧ 1000 ≤ Y ∧ Y ≤ 3000 ∧ nv = .int .i64 j ∧ Hid ((Y - 1900) * 12 + M - 1 + j = T) ∧ Hid (DatO g Y M d wr) ∧ Below w.heap.size w wr ∧ g < wr.heap.size) (fun nv _ => (-(RowKit.intOf nv)).toNat)
      case atStart => exact ⟨j, Y, M, j1, hj0, M1, M2, Y1, Y2, rfl, HE, HD, hB, hz2⟩
      case round =>
        clear HE HD hB hz2 hj hj0 M1 M2 Y1 Y2 j1 j2
        obtain ⟨j, Y, M, j1, j2, M1, M2, Y1, Y2, rfl, HE, HD, hB, hz2⟩ := hrel
        obtain ⟨⟨c0, c1, c2⟩, f0, f1, f2⟩ := HD.out
        by_cases hj : j < 0
        · by_cases hM : M = 1
          · subst hM
            have HD2 : Hid (DatO g (Y - 1) 12 d (((wr.setCell ⟨g, 1, none⟩ (.int .i64 0)).setCell ⟨g, 0, none⟩ (.int .i64 (Y - 1))).setCell ⟨g, 1, none⟩ (.int .i64 12))) := Lib.hid (((HD.out.set1 0).set0 (Y - 1)).set1 12)
            have hE := HE.out
            have hY : 1500 ≤ Y := by omega
            clear hE
            go_wp2
            refine ⟨⟨j + 1, Y - 1, 12, by omega, by omega, by omega, by omega, by omega, by omega, rfl, Lib.hid (by have := HE.out; omega), HD2, ((hB.setCell hz _).setCell hz _).setCell hz _, by simpa [World.setCell] using hz2⟩, by simp [RowKit.intOf]; omega⟩
          · have hM13 : (M - 1 == 0) = false := by simp; omega
            have HD2 : Hid (DatO g Y (M - 1) d (wr.setCell ⟨g, 1, none⟩ (.int .i64 (M - 1)))) := Lib.hid (HD.out.set1 (M - 1))
            go_wp2
            refine ⟨⟨j + 1, Y, M - 1, by omega, by omega, by omega, by omega, by omega, by omega, rfl, Lib.hid (by have := HE.out; omega), HD2, hB.setCell hz _, by simpa [World.setCell] using hz2⟩, by simp [RowKit.intOf]; omega⟩
        · obtain rfl : j = 0 := by omega
          have HA := Lib.hid (add_at (d := d) (show (Y - 1900) * 12 + M - 1 = monN y m + n by have := HE.out; have := HTT.out; omega) M1 M2)
          by_cases c : Y < 1900
          · obtain rfl : R = -25567 := HR.out.trans (HA.out.1 c)
            go_wp2
            go_ret
            exact ⟨rfl, hB⟩
          · by_cases c' : 2199 < Y
            · obtain rfl : R = 84005 := HR.out.trans (HA.out.2.1 c c')
              go_wp2
              go_ret
              exact ⟨rfl, hB⟩
            · have b1 : 1900 ≤ Y := by omega
              have b2 : Y ≤ 2199 := by omega
              have hmd := mdV_in b1 b2 M1 M2
              have hR := HR.out.trans (HA.out.2.2 c c')
              rw [← hmd] at hR
              have hmb := mdV_bd Y M
              have hok : okB Y M (min d (mdV Y M)) = true := by
                have := dim_bd Y M
                exact okB_iff.2 ⟨b1, b2, M1, M2, by omega, by omega⟩
              have HO := rof_yes Y M (min d (mdV Y M)) hok
              rw [← hR] at HO
              clear hR hok hmd HR HA HE
              obtain ⟨D, hD⟩ : ∃ D, D = min d (mdV Y M) := ⟨_, rfl⟩
              rw [← hD] at HO
              have HO := Lib.hid HO
              have hmin : (if mdV Y M < d then mdV Y M else d) = D := by rw [hD, min_ite]; split <;> split <;> omega
              have hg : g < wr.heap.size := hz2
              clear hD
              go_upto_region 20 with fail
              go_cut [5] (fun s5 wx => s5 = .pointer (some ⟨g, 0, none⟩) ∧ Below w.heap.size w wx ∧ wx.cell? ⟨g, 0, none⟩ = some (.int .i64 Y) ∧ wx.cell? ⟨g, 1, none⟩ = some (.int .i64 M) ∧ wx.cell? ⟨g, 2, none⟩ = some (.int .i64 D))
              case first =>
                go_region_with (first | (go_at_call 15; refine (rmonth3f Y M g (.int .i64 Y) (.int .i64 M) (.int .i64 d) _ ?_ ?_ ?_ ?_).mono ?_; (simp [*]); (simp [*]); (simp [*]); (simp [*]); rintro e w' ⟨rfl, k0, k1, k2, k3, hb⟩))
                all_goals
                  have hbw : Below w.heap.size w w' := hB.drew.trans (hb.mono hB.size)
                  go_wp2_with fail
                  go_meet
                  exact ⟨rfl, hbw.setCell hz _, (set_off (by omega)).trans k0, (set_off (by omega)).trans k1, set_in k2⟩
              case rest =>
                obtain ⟨rfl, hbx, x0, x1, x2⟩ := hcut
                go_wp2_with fail
                refine (HO.out _).mono ?_
                rintro e w5 ⟨rfl, hb5⟩
                go_wp2
                go_ret
                exact ⟨rfl, hbx.trans (hb5.mono hbx.size)⟩

theorem radd_any (y m d N n : Int) (h : okB y m d = true) (hn : num y m d = N) (w : World) : Calls Tryd.prog 24 #[.int .i64 N, .int .i64 n] w fun e w' => e = .returned (.int .i64 (addM y m d n)) ∧ Below w.heap.size w w' := by
  by_cases hb : n < -4000 ∨ 4000 < n
  · exact radd_far y m d N n h hn hb w
  · exact radd_near y m d N n h hn (by omega) (by omega) w

end Go.Proofs.YtajhabnepodpbaaDoor
