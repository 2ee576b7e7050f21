/-
  What is proved: the walk of the statement SheetLimits: the call returns true. Conditions: none beyond what came in.
-/
import Derived.Test.YtlfflnfodnegnaaSkJ
import Derived.Test.YtlfflnfodnegnaaFrameK
namespace Go.Proofs.Ytlfflnfodnegnaa
open Go Go.RowKit Go.Proofs
set_option linter.unusedVariables false

set_option maxHeartbeats 4000000 in
set_option maxRecDepth 100000 in
theorem walkSheetLimits (a : Option Addr) (n c : Nat) (f : Nat → En) (D W dd ww s t : Int) (w : World) (hA : EntsArg w a n c f) (D64 : in64 D) (W64 : in64 W) (d8 : (Lit.int .u8 dd).wf = true) (w8 : (Lit.int .u8 ww).wf = true) (s64 : in64 s) (t64 : in64 t) :
    Calls Try.prog 7 #[.slice a n c, .agg #[.int .i64 D, .int .i64 W], .int .u8 dd, .int .u8 ww, .agg #[.int .i64 s, .int .i64 t]] w fun e w' => e = .returned (.bool true) ∧ Below w.heap.size w w' := by
  obtain ⟨hE, -, -⟩ := hA
  have hdd : 0 ≤ dd ∧ dd ≤ 255 := by simp [Lit.wf, IntKind.min, IntKind.max, IntKind.signed, IntKind.bits] at d8; omega
  have hww : 0 ≤ ww ∧ ww ≤ 255 := by simp [Lit.wf, IntKind.min, IntKind.max, IntKind.signed, IntKind.bits] at w8; omega
  obtain ⟨d0, d1⟩ := hdd
  obtain ⟨w0, w1⟩ := hww
  obtain ⟨W2, hW2⟩ : ∃ W2, W2 = (w.alloc (.cells #[.int .i64 D, .int .i64 W] 24)).alloc (.cells #[.int .i64 s, .int .i64 t] 27) := ⟨_, rfl⟩
  have hza : (w.alloc (.cells #[.int .i64 D, .int .i64 W] 24)).heap.size = w.heap.size + 1 := by simp
  have hz2 : W2.heap.size = w.heap.size + 1 + 1 := by rw [hW2]; simp
  have hb0 : Below w.heap.size w W2 := by rw [hW2]; exact ((Below.refl w.heap.size w).alloc (Nat.le_refl _) _).alloc (by simp) _
  have c0 : W2.cell? ⟨w.heap.size, 0, none⟩ = some (.int .i64 D) := by rw [hW2, World.cell?_alloc_lt _ _ _ (by rw [hza]; show w.heap.size < _; omega), new_at]; rfl
  have c1 : W2.cell? ⟨w.heap.size, 1, none⟩ = some (.int .i64 W) := by rw [hW2, World.cell?_alloc_lt _ _ _ (by rw [hza]; show w.heap.size < _; omega), new_at]; rfl
  have c2 : W2.cell? ⟨w.heap.size + 1, 0, none⟩ = some (.int .i64 s) := by rw [hW2, ← hza, new_at]; rfl
  have c3 : W2.cell? ⟨w.heap.size + 1, 1, none⟩ = some (.int .i64 t) := by rw [hW2, ← hza, new_at]; rfl
  have HA := Lib.hid (awake_any W2)
  have HE := Lib.hid hE
  clear hE hza
  go_enter Try.func7, Try.ntmps7
  go_wp2_with fail
  rw [← hW2]
  clear hW2
  refine (HA.out).mono ?_
  rintro e w3 ⟨rfl, hb3⟩
  have hbw3 := hb0.trans (hb3.mono (by omega))
  by_cases h300 : 300 < n
  · have hI : (300 : Int) < (n : Int) := by omega
    clear hb3 hb0 c0 c1 c2 c3 HA
    go_wp2
    go_ret
    exact ⟨rfl, hbw3⟩
  · have hI : ¬ (300 : Int) < (n : Int) := by omega
    obtain ⟨W4, hW4⟩ : ∃ W4, W4 = w3.alloc (.cells #[.int .i64 (-4611686018427387904), .int .i64 4611686018427387904] 27) := ⟨_, rfl⟩
    have hb34 : Below w3.heap.size w3 W4 := by rw [hW4]; exact (Below.refl _ _).alloc (Nat.le_refl _) _
    have hbw := hbw3.trans (hb34.mono hbw3.size)
    have y0 := stay hb34 (stay hb3 c0)
    have y1 := stay hb34 (stay hb3 c1)
    have y2 := stay hb34 (stay hb3 c2)
    have y3 := stay hb34 (stay hb3 c3)
    have v0 := stay hb3 c0
    have v1 := stay hb3 c1
    have v2 := stay hb3 c2
    have v3 := stay hb3 c3
    have k0 : w.heap.size < w3.heap.size := by have := hb3.size; omega
    have k1 : w.heap.size + 1 < w3.heap.size := by have := hb3.size; omega
    have y4 : W4.cell? ⟨w3.heap.size, 0, none⟩ = some (.int .i64 (-4611686018427387904)) := by rw [hW4, new_at]; rfl
    have y5 : W4.cell? ⟨w3.heap.size, 1, none⟩ = some (.int .i64 4611686018427387904) := by rw [hW4, new_at]; rfl
    have hE4 := HE.out.below hbw
    have HS := Sum_any f a n c D W s t W4 hE4
    obtain ⟨C, hC⟩ : ∃ C, C = chk f n D W := ⟨_, rfl⟩
    obtain ⟨Ra, hRa⟩ : ∃ R, R = sumR f n D W s t := ⟨_, rfl⟩
    rw [← hRa, ← hC] at HS
    replace HS := Lib.hid HS
    have HE4 := Lib.hid hE4
    obtain ⟨g0, hg0⟩ : ∃ g, g = w3.heap.size := ⟨_, rfl⟩
    clear hb3 hb0 c0 c1 c2 c3 HA hE4 hb34 hbw3 HE
    go_wp2_with fail
    rw [← hW4, ← hg0]
    rw [← hg0] at y4 y5
    clear hW4 hg0 v0 v1 v2 v3 k0 k1
    refine (HS.out).mono ?_
    rintro e w5 ⟨rfl, hb5⟩
    have hbw5 := hbw.trans (hb5.mono hbw.size)
    by_cases h0 : C = 0
    · obtain ⟨hn, hr, hL⟩ := chk_ok.1 (hC.symm.trans h0)
      rw [h0]
      have hRas : Ra = sumP D W s t f n := by rw [hRa]; unfold sumR; rw [if_pos (hC.symm.trans h0)]
      have hL0 : Lim 0 W := by obtain ⟨l1, l2, l3, l4⟩ := hL; exact ⟨by omega, by omega, l3, l4⟩
      have hLg : Lim 1440 10080 := ⟨by omega, by omega, by omega, by omega⟩
      obtain ⟨Rd, hRd⟩ : ∃ R, R = sumP D W (-4611686018427387904) 4611686018427387904 f n := ⟨_, rfl⟩
      obtain ⟨Rb, hRb⟩ : ∃ R, R = sumR f n (D + dd) (W + ww) (-4611686018427387904) 4611686018427387904 := ⟨_, rfl⟩
      obtain ⟨Rc, hRc⟩ : ∃ R, R = sumR f n D (W + ww) s t := ⟨_, rfl⟩
      obtain ⟨Rn, hRn⟩ : ∃ R, R = sumP 0 W s t f n := ⟨_, rfl⟩
      obtain ⟨Rg, hRg⟩ : ∃ R, R = sumP 1440 10080 s t f n := ⟨_, rfl⟩
      obtain ⟨Cb, hCb⟩ : ∃ C, C = chk f n (D + dd) (W + ww) := ⟨_, rfl⟩
      obtain ⟨Cc, hCc⟩ : ∃ C, C = chk f n D (W + ww) := ⟨_, rfl⟩
      have HBO : Hid (Cb = 0 → Rb.2.1 ≤ Rd.2.1) := Lib.hid (fun h => by
        obtain ⟨-, -, hL'⟩ := chk_ok.1 (hCb.symm.trans h)
        rw [hRb, hRd]; unfold sumR; rw [if_pos (hCb.symm.trans h)]
        exact sum_more hr hL hL' (by omega) (by omega))
      have HCO : Hid (Cc = 0 → Rc.2.1 ≤ Ra.2.1) := Lib.hid (fun h => by
        obtain ⟨-, -, hL'⟩ := chk_ok.1 (hCc.symm.trans h)
        rw [hRc, hRas]; unfold sumR; rw [if_pos (hCc.symm.trans h)]
        exact sum_week hr hL hL' (by omega) s t n (Nat.le_refl _))
      have HNO : Hid (Rn.1 = 0) := Lib.hid (by rw [hRn]; exact sum_none hr hL0 s t n (Nat.le_refl _))
      have HGO : Hid (Rg.2.1 = 0) := Lib.hid (by rw [hRg]; exact sum_great hr s t n (Nat.le_refl _))
      have HD : Hid (∀ V, EntsIn V a n f → Calls Try.prog 10 #[.slice a n c, .agg #[.int .i64 D, .int .i64 W], .agg #[.int .i64 (-4611686018427387904), .int .i64 4611686018427387904]] V fun e w' => e = .returned (.tuple #[.agg #[.int .i64 Rd.1, .int .i64 Rd.2.1, .int .i64 Rd.2.2], .int .i64 0]) ∧ Below V.heap.size V w') := Lib.hid (fun V hV => by
        have := Sum_any f a n c D W (-4611686018427387904) 4611686018427387904 V hV
        have hc := chk_ok.2 ⟨hn, hr, hL⟩
        unfold sumR at this
        rwa [if_pos hc, hc, ← hRd] at this)
      have HB : Hid (∀ V, EntsIn V a n f → Calls Try.prog 10 #[.slice a n c, .agg #[.int .i64 (D + dd), .int .i64 (W + ww)], .agg #[.int .i64 (-4611686018427387904), .int .i64 4611686018427387904]] V fun e w' => e = .returned (.tuple #[.agg #[.int .i64 Rb.1, .int .i64 Rb.2.1, .int .i64 Rb.2.2], .int .i64 Cb]) ∧ Below V.heap.size V w') := Lib.hid (fun V hV => by
        have := Sum_any f a n c (D + dd) (W + ww) (-4611686018427387904) 4611686018427387904 V hV
        rwa [← hRb, ← hCb] at this)
      have HC : Hid (∀ V, EntsIn V a n f → Calls Try.prog 10 #[.slice a n c, .agg #[.int .i64 D, .int .i64 (W + ww)], .agg #[.int .i64 s, .int .i64 t]] V fun e w' => e = .returned (.tuple #[.agg #[.int .i64 Rc.1, .int .i64 Rc.2.1, .int .i64 Rc.2.2], .int .i64 Cc]) ∧ Below V.heap.size V w') := Lib.hid (fun V hV => by
        have := Sum_any f a n c D (W + ww) s t V hV
        rwa [← hRc, ← hCc] at this)
      have HN : Hid (∀ V, EntsIn V a n f → Calls Try.prog 10 #[.slice a n c, .agg #[.int .i64 0, .int .i64 W], .agg #[.int .i64 s, .int .i64 t]] V fun e w' => e = .returned (.tuple #[.agg #[.int .i64 Rn.1, .int .i64 Rn.2.1, .int .i64 Rn.2.2], .int .i64 0]) ∧ Below V.heap.size V w') := Lib.hid (fun V hV => by
        have := Sum_any f a n c 0 W s t V hV
        have hc := chk_ok.2 ⟨hn, hr, hL0⟩
        unfold sumR at this
        rwa [if_pos hc, hc, ← hRn] at this)
      have HG : Hid (∀ V, EntsIn V a n f → Calls Try.prog 10 #[.slice a n c, .agg #[.int .i64 1440, .int .i64 10080], .agg #[.int .i64 s, .int .i64 t]] V fun e w' => e = .returned (.tuple #[.agg #[.int .i64 Rg.1, .int .i64 Rg.2.1, .int .i64 Rg.2.2], .int .i64 0]) ∧ Below V.heap.size V w') := Lib.hid (fun V hV => by
        have := Sum_any f a n c 1440 10080 s t V hV
        have hc := chk_ok.2 ⟨hn, hr, hLg⟩
        unfold sumR at this
        rwa [if_pos hc, hc, ← hRg] at this)
      obtain ⟨l1, l2, l3, l4⟩ := hL
      replace y0 := stay hb5 y0
      replace y1 := stay hb5 y1
      replace y2 := stay hb5 y2
      replace y3 := stay hb5 y3
      replace y4 := stay hb5 y4
      replace y5 := stay hb5 y5
      have HZ := Lib.hid True.intro
      have HEn := Lib.hid (HE4.out.below hb5)
      have HBn := Lib.hid hbw5
      clear h0 hC hRa hRas hL0 hLg hRd hRb hRc hRn hRg hCb hCc hn hr HS HE4 hbw hb5 hbw5 hz2
      obtain ⟨V0, hV0⟩ : ∃ V, V = w5.alloc (.cells #[.int .i64 Ra.1, .int .i64 Ra.2.1, .int .i64 Ra.2.2] 30) := ⟨_, rfl⟩
      obtain ⟨k0, hk0⟩ : ∃ g, g = w5.heap.size := ⟨_, rfl⟩
      have Hb0 : Below w5.heap.size w5 V0 := by rw [hV0]; exact (Below.refl _ _).alloc (Nat.le_refl _) _
      have Xa : Hid (HrBox V0 k0 Ra) := Lib.hid (by rw [hV0, hk0]; exact HrBox.new w5 Ra _)
      have ka : w.heap.size < w5.heap.size := World.block_lt_of_cell? _ _ y0
      have kb : w.heap.size + 1 < w5.heap.size := World.block_lt_of_cell? _ _ y2
      have kc : g0 < w5.heap.size := World.block_lt_of_cell? _ _ y4
      replace HEn := Lib.hid (HEn.out.below Hb0)
      replace HBn := Lib.hid (HBn.out.trans (Hb0.mono HBn.out.size))
      have z0 := stay Hb0 y0
      have z1 := stay Hb0 y1
      have z2 := stay Hb0 y2
      have z3 := stay Hb0 y3
      have z4 := stay Hb0 y4
      have z5 := stay Hb0 y5
      replace HZ := Lib.hid (And.intro z0 (And.intro z1 (And.intro z2 (And.intro z3 (And.intro z4 z5)))))
      clear Hb0 z0 z1 z2 z3 z4 z5
      replace HD := Lib.hid (HD.out V0 HEn.out)
      go_wp2_with fail
      rw [← hV0, ← hk0]
      clear hV0 hk0
      refine (HD.out).mono ?_
      rintro e w6 ⟨rfl, hb⟩
      replace Xa := Lib.hid (Xa.out.below hb)
      clear y0 y1 y2 y3 y4 y5 ka kb kc
      obtain ⟨y0, y1, y2, y3, y4, y5⟩ := HZ.out
      replace y0 := stay hb y0
      replace y1 := stay hb y1
      replace y2 := stay hb y2
      replace y3 := stay hb y3
      replace y4 := stay hb y4
      replace y5 := stay hb y5
      replace HEn := Lib.hid (HEn.out.below hb)
      replace HBn := Lib.hid (HBn.out.trans (hb.mono HBn.out.size))
      clear hb HD
      obtain ⟨V1, hV1⟩ : ∃ V, V = w6.alloc (.cells #[.int .i64 Rd.1, .int .i64 Rd.2.1, .int .i64 Rd.2.2] 30) := ⟨_, rfl⟩
      obtain ⟨k1, hk1⟩ : ∃ g, g = w6.heap.size := ⟨_, rfl⟩
      have Hb1 : Below w6.heap.size w6 V1 := by rw [hV1]; exact (Below.refl _ _).alloc (Nat.le_refl _) _
      have Xd : Hid (HrBox V1 k1 Rd) := Lib.hid (by rw [hV1, hk1]; exact HrBox.new w6 Rd _)
      replace Xa := Lib.hid (Xa.out.below Hb1)
      have ka : w.heap.size < w6.heap.size := World.block_lt_of_cell? _ _ y0
      have kb : w.heap.size + 1 < w6.heap.size := World.block_lt_of_cell? _ _ y2
      have kc : g0 < w6.heap.size := World.block_lt_of_cell? _ _ y4
      replace HEn := Lib.hid (HEn.out.below Hb1)
      replace HBn := Lib.hid (HBn.out.trans (Hb1.mono HBn.out.size))
      have z0 := stay Hb1 y0
      have z1 := stay Hb1 y1
      have z2 := stay Hb1 y2
      have z3 := stay Hb1 y3
      have z4 := stay Hb1 y4
      have z5 := stay Hb1 y5
      replace HZ := Lib.hid (And.intro z0 (And.intro z1 (And.intro z2 (And.intro z3 (And.intro z4 z5)))))
      clear Hb1 z0 z1 z2 z3 z4 z5
      replace HB := Lib.hid (HB.out V1 HEn.out)
      go_wp2_with fail
      rw [← hV1, ← hk1]
      clear hV1 hk1
      refine (HB.out).mono ?_
      rintro e w7 ⟨rfl, hb⟩
      replace Xa := Lib.hid (Xa.out.below hb)
      replace Xd := Lib.hid (Xd.out.below hb)
      clear y0 y1 y2 y3 y4 y5 ka kb kc
      obtain ⟨y0, y1, y2, y3, y4, y5⟩ := HZ.out
      replace y0 := stay hb y0
      replace y1 := stay hb y1
      replace y2 := stay hb y2
      replace y3 := stay hb y3
      replace y4 := stay hb y4
      replace y5 := stay hb y5
      replace HEn := Lib.hid (HEn.out.below hb)
      replace HBn := Lib.hid (HBn.out.trans (hb.mono HBn.out.size))
      clear hb HB
      obtain ⟨V2, hV2⟩ : ∃ V, V = w7.alloc (.cells #[.int .i64 Rb.1, .int .i64 Rb.2.1, .int .i64 Rb.2.2] 30) := ⟨_, rfl⟩
      obtain ⟨k2, hk2⟩ : ∃ g, g = w7.heap.size := ⟨_, rfl⟩
      have Hb2 : Below w7.heap.size w7 V2 := by rw [hV2]; exact (Below.refl _ _).alloc (Nat.le_refl _) _
      have Xb : Hid (HrBox V2 k2 Rb) := Lib.hid (by rw [hV2, hk2]; exact HrBox.new w7 Rb _)
      replace Xa := Lib.hid (Xa.out.below Hb2)
      replace Xd := Lib.hid (Xd.out.below Hb2)
      have ka : w.heap.size < w7.heap.size := World.block_lt_of_cell? _ _ y0
      have kb : w.heap.size + 1 < w7.heap.size := World.block_lt_of_cell? _ _ y2
      have kc : g0 < w7.heap.size := World.block_lt_of_cell? _ _ y4
      replace HEn := Lib.hid (HEn.out.below Hb2)
      replace HBn := Lib.hid (HBn.out.trans (Hb2.mono HBn.out.size))
      have z0 := stay Hb2 y0
      have z1 := stay Hb2 y1
      have z2 := stay Hb2 y2
      have z3 := stay Hb2 y3
      have z4 := stay Hb2 y4
      have z5 := stay Hb2 y5
      replace HZ := Lib.hid (And.intro z0 (And.intro z1 (And.intro z2 (And.intro z3 (And.intro z4 z5)))))
      clear Hb2 z0 z1 z2 z3 z4 z5
      replace HC := Lib.hid (HC.out V2 HEn.out)
      go_wp2_with fail
      rw [← hV2, ← hk2]
      clear hV2 hk2
      refine (HC.out).mono ?_
      rintro e w8 ⟨rfl, hb⟩
      replace Xa := Lib.hid (Xa.out.below hb)
      replace Xd := Lib.hid (Xd.out.below hb)
      replace Xb := Lib.hid (Xb.out.below hb)
      clear y0 y1 y2 y3 y4 y5 ka kb kc
      obtain ⟨y0, y1, y2, y3, y4, y5⟩ := HZ.out
      replace y0 := stay hb y0
      replace y1 := stay hb y1
      replace y2 := stay hb y2
      replace y3 := stay hb y3
      replace y4 := stay hb y4
      replace y5 := stay hb y5
      replace HEn := Lib.hid (HEn.out.below hb)
      replace HBn := Lib.hid (HBn.out.trans (hb.mono HBn.out.size))
      clear hb HC
      obtain ⟨V3, hV3⟩ : ∃ V, V = w8.alloc (.cells #[.int .i64 Rc.1, .int .i64 Rc.2.1, .int .i64 Rc.2.2] 30) := ⟨_, rfl⟩
      obtain ⟨k3, hk3⟩ : ∃ g, g = w8.heap.size := ⟨_, rfl⟩
      have Hb3 : Below w8.heap.size w8 V3 := by rw [hV3]; exact (Below.refl _ _).alloc (Nat.le_refl _) _
      have Xc : Hid (HrBox V3 k3 Rc) := Lib.hid (by rw [hV3, hk3]; exact HrBox.new w8 Rc _)
      replace Xa := Lib.hid (Xa.out.below Hb3)
      replace Xd := Lib.hid (Xd.out.below Hb3)
      replace Xb := Lib.hid (Xb.out.below Hb3)
      have ka : w.heap.size < w8.heap.size := World.block_lt_of_cell? _ _ y0
      have kb : w.heap.size + 1 < w8.heap.size := World.block_lt_of_cell? _ _ y2
      have kc : g0 < w8.heap.size := World.block_lt_of_cell? _ _ y4
      replace HEn := Lib.hid (HEn.out.below Hb3)
      replace HBn := Lib.hid (HBn.out.trans (Hb3.mono HBn.out.size))
      have z0 := stay Hb3 y0
      have z1 := stay Hb3 y1
      have z2 := stay Hb3 y2
      have z3 := stay Hb3 y3
      have z4 := stay Hb3 y4
      have z5 := stay Hb3 y5
      replace HZ := Lib.hid (And.intro z0 (And.intro z1 (And.intro z2 (And.intro z3 (And.intro z4 z5)))))
      clear Hb3 z0 z1 z2 z3 z4 z5
      replace HN := Lib.hid (HN.out V3 HEn.out)
      go_wp2_with fail
      rw [← hV3, ← hk3]
      clear hV3 hk3
      refine (HN.out).mono ?_
      rintro e w9 ⟨rfl, hb⟩
      replace Xa := Lib.hid (Xa.out.below hb)
      replace Xd := Lib.hid (Xd.out.below hb)
      replace Xb := Lib.hid (Xb.out.below hb)
      replace Xc := Lib.hid (Xc.out.below hb)
      clear y0 y1 y2 y3 y4 y5 ka kb kc
      obtain ⟨y0, y1, y2, y3, y4, y5⟩ := HZ.out
      replace y0 := stay hb y0
      replace y1 := stay hb y1
      replace y2 := stay hb y2
      replace y3 := stay hb y3
      replace y4 := stay hb y4
      replace y5 := stay hb y5
      replace HEn := Lib.hid (HEn.out.below hb)
      replace HBn := Lib.hid (HBn.out.trans (hb.mono HBn.out.size))
      clear hb HN
      obtain ⟨V4, hV4⟩ : ∃ V, V = w9.alloc (.cells #[.int .i64 Rn.1, .int .i64 Rn.2.1, .int .i64 Rn.2.2] 30) := ⟨_, rfl⟩
      obtain ⟨k4, hk4⟩ : ∃ g, g = w9.heap.size := ⟨_, rfl⟩
      have Hb4 : Below w9.heap.size w9 V4 := by rw [hV4]; exact (Below.refl _ _).alloc (Nat.le_refl _) _
      have Xn : Hid (HrBox V4 k4 Rn) := Lib.hid (by rw [hV4, hk4]; exact HrBox.new w9 Rn _)
      replace Xa := Lib.hid (Xa.out.below Hb4)
      replace Xd := Lib.hid (Xd.out.below Hb4)
      replace Xb := Lib.hid (Xb.out.below Hb4)
      replace Xc := Lib.hid (Xc.out.below Hb4)
      have ka : w.heap.size < w9.heap.size := World.block_lt_of_cell? _ _ y0
      have kb : w.heap.size + 1 < w9.heap.size := World.block_lt_of_cell? _ _ y2
      have kc : g0 < w9.heap.size := World.block_lt_of_cell? _ _ y4
      replace HEn := Lib.hid (HEn.out.below Hb4)
      replace HBn := Lib.hid (HBn.out.trans (Hb4.mono HBn.out.size))
      have z0 := stay Hb4 y0
      have z1 := stay Hb4 y1
      have z2 := stay Hb4 y2
      have z3 := stay Hb4 y3
      have z4 := stay Hb4 y4
      have z5 := stay Hb4 y5
      replace HZ := Lib.hid (And.intro z0 (And.intro z1 (And.intro z2 (And.intro z3 (And.intro z4 z5)))))
      clear Hb4 z0 z1 z2 z3 z4 z5
      replace HG := Lib.hid (HG.out V4 HEn.out)
      go_wp2_with fail
      rw [← hV4, ← hk4]
      clear hV4 hk4
      refine (HG.out).mono ?_
      rintro e w10 ⟨rfl, hb⟩
      replace Xa := Lib.hid (Xa.out.below hb)
      replace Xd := Lib.hid (Xd.out.below hb)
      replace Xb := Lib.hid (Xb.out.below hb)
      replace Xc := Lib.hid (Xc.out.below hb)
      replace Xn := Lib.hid (Xn.out.below hb)
      clear y0 y1 y2 y3 y4 y5 ka kb kc
      obtain ⟨y0, y1, y2, y3, y4, y5⟩ := HZ.out
      replace y0 := stay hb y0
      replace y1 := stay hb y1
      replace y2 := stay hb y2
      replace y3 := stay hb y3
      replace y4 := stay hb y4
      replace y5 := stay hb y5
      replace HEn := Lib.hid (HEn.out.below hb)
      replace HBn := Lib.hid (HBn.out.trans (hb.mono HBn.out.size))
      clear hb HG
      have q0 := Xa.out.lt
      have q1 := Xd.out.lt
      have q2 := Xb.out.lt
      have q3 := Xc.out.lt
      have q4 := Xn.out.lt
      obtain ⟨⟨xa0, xa1, xa2⟩, -⟩ := Xa.out
      obtain ⟨⟨xd0, xd1, xd2⟩, -⟩ := Xd.out
      obtain ⟨⟨xb0, xb1, xb2⟩, -⟩ := Xb.out
      obtain ⟨⟨xc0, xc1, xc2⟩, -⟩ := Xc.out
      obtain ⟨⟨xn0, xn1, xn2⟩, -⟩ := Xn.out
      have hN := HNO.out
      have hG := HGO.out
      have hB := HBO.out
      have hC := HCO.out
      obtain ⟨Ra0, Ra1, Ra2⟩ := Ra
      obtain ⟨Rd0, Rd1, Rd2⟩ := Rd
      obtain ⟨Rb0, Rb1, Rb2⟩ := Rb
      obtain ⟨Rc0, Rc1, Rc2⟩ := Rc
      obtain ⟨Rn0, Rn1, Rn2⟩ := Rn
      obtain ⟨Rg0, Rg1, Rg2⟩ := Rg
      simp only at *
      subst hN
      subst hG
      clear Xa Xd Xb Xc Xn HNO HGO HBO HCO HEn y0 y1 y2 y3 y4 y5
      by_cases hb : Cb = 0
      · have hB' := hB hb
        subst hb
        clear hB
        by_cases hc : Cc = 0
        · have hC' := hC hc
          subst hc
          clear hC
          go_wp2
          go_ret
          exact ⟨rfl, HBn.out.alloc HBn.out.size _⟩
        · clear hC
          go_wp2
          go_ret
          exact ⟨rfl, HBn.out.alloc HBn.out.size _⟩
      · clear hB
        by_cases hc : Cc = 0
        · have hC' := hC hc
          subst hc
          clear hC
          go_wp2
          go_ret
          exact ⟨rfl, HBn.out.alloc HBn.out.size _⟩
        · clear hC
          go_wp2
          go_ret
          exact ⟨rfl, HBn.out.alloc HBn.out.size _⟩
    · have h0' : ¬ C = 0 := h0
      clear hC hRa HS HE4 y0 y1 y2 y3 y4 y5 hb5 hbw
      go_wp2
      go_ret
      exact ⟨rfl, hbw5.alloc hbw5.size _⟩

end Go.Proofs.Ytlfflnfodnegnaa
