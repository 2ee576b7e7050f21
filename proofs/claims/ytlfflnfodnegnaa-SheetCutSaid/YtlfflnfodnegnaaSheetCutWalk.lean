/-
  What is proved: the walk of the statement SheetCut: the call returns true. Conditions: none beyond what came in.
-/
import Derived.Test.YtlfflnfodnegnaaSkJ
import Derived.Test.YtlfflnfodnegnaaFrameK
import Derived.Deep.RegionLaw
import Derived.BigRegion
namespace Go.Proofs.Ytlfflnfodnegnaa
open Go Go.RowKit Go.Proofs
set_option linter.unusedVariables false

theorem weeks_mons {f : Nat → En} {n : Nat} {E : List Int} (h : ∀ m, m ∈ E ↔ m ∈ monsL f n) : ∀ i, i < n → mon (f i).1 ∈ E := fun i hi => (h _).2 (monsL_mem.2 ⟨i, hi, rfl⟩)

set_option maxHeartbeats 4000000 in
set_option maxRecDepth 100000 in
theorem walkSheetCut (a : Option Addr) (n c : Nat) (f : Nat → En) (D W s t x : Int) (w : World) (hA : EntsArg w a n c f) (D64 : in64 D) (W64 : in64 W) (s64 : in64 s) (t64 : in64 t) (x64 : (Lit.int .i64 x).wf = true) :
    Calls Try.prog 5 #[.slice a n c, .agg #[.int .i64 D, .int .i64 W], .agg #[.int .i64 s, .int .i64 t], .int .i64 x] w fun e w' => e = .returned (.bool true) ∧ Below w.heap.size w w' := by
  obtain ⟨hE, -, -⟩ := hA
  obtain ⟨W2, hW2⟩ : ∃ W2, W2 = (w.alloc (.cells #[.int .i64 D, .int .i64 W] 24)).alloc (.cells #[.int .i64 s, .int .i64 t] 27) := ⟨_, rfl⟩
  have hza : (w.alloc (.cells #[.int .i64 D, .int .i64 W] 24)).heap.size = w.heap.size + 1 := by simp
  have hz2 : W2.heap.size = w.heap.size + 1 + 1 := by rw [hW2]; simp
  have hb0 : Below w.heap.size w W2 := by rw [hW2]; exact ((Below.refl w.heap.size w).alloc (Nat.le_refl _) _).alloc (by simp) _
  have c0 : W2.cell? ⟨w.heap.size, 0, none⟩ = some (.int .i64 D) := by rw [hW2, World.cell?_alloc_lt _ _ _ (by rw [hza]; show w.heap.size < _; omega), new_at]; rfl
  have c1 : W2.cell? ⟨w.heap.size, 1, none⟩ = some (.int .i64 W) := by rw [hW2, World.cell?_alloc_lt _ _ _ (by rw [hza]; show w.heap.size < _; omega), new_at]; rfl
  have c2 : W2.cell? ⟨w.heap.size + 1, 0, none⟩ = some (.int .i64 s) := by rw [hW2, ← hza, new_at]; rfl
  have c3 : W2.cell? ⟨w.heap.size + 1, 1, none⟩ = some (.int .i64 t) := by rw [hW2, ← hza, new_at]; rfl
  have HA := Lib.hid (awake_any W2)
  have HE := Lib.hid hE
  clear hE hza
  go_enter Try.func5, Try.ntmps5
  go_wp2_with fail
  rw [← hW2]
  clear hW2
  refine (HA.out).mono ?_
  rintro e w3 ⟨rfl, hb3⟩
  have y0 := stay hb3 c0
  have y1 := stay hb3 c1
  have y2 := stay hb3 c2
  have y3 := stay hb3 c3
  have HBn := Lib.hid (hb0.trans (hb3.mono (by omega)))
  have HEn := Lib.hid (HE.out.below HBn.out)
  clear hb3 hb0 c0 c1 c2 c3 HA HE
  by_cases h300 : 300 < n
  · have hI : (300 : Int) < (n : Int) := by omega
    go_wp2
    go_ret
    exact ⟨rfl, HBn.out⟩
  · have hI : ¬ (300 : Int) < (n : Int) := by omega
    by_cases hxs : x < s
    · go_wp2
      go_ret
      exact ⟨rfl, HBn.out⟩
    · by_cases hxt : t < x
      · go_wp2
        go_ret
        exact ⟨rfl, HBn.out⟩
      · obtain ⟨C, hC⟩ : ∃ C, C = chk f n D W := ⟨_, rfl⟩
        obtain ⟨Ra, hRa⟩ : ∃ R, R = sumR f n D W s x := ⟨_, rfl⟩
        obtain ⟨Rb, hRb⟩ : ∃ R, R = sumR f n D W x t := ⟨_, rfl⟩
        obtain ⟨Rc, hRc⟩ : ∃ R, R = sumR f n D W s t := ⟨_, rfl⟩
        obtain ⟨Rd, hRd⟩ : ∃ R, R = sumR f n D W (-4611686018427387904) 4611686018427387904 := ⟨_, rfl⟩
        have HCa : Hid (∀ V, EntsIn V a n f → Calls Try.prog 10 #[.slice a n c, .agg #[.int .i64 D, .int .i64 W], .agg #[.int .i64 s, .int .i64 x]] V fun e w' => e = .returned (.tuple #[.agg #[.int .i64 Ra.1, .int .i64 Ra.2.1, .int .i64 Ra.2.2], .int .i64 C]) ∧ Below V.heap.size V w') := Lib.hid (fun V hV => by
          have := Sum_any f a n c D W s x V hV
          rwa [← hRa, ← hC] at this)
        have HCb : Hid (∀ V, EntsIn V a n f → Calls Try.prog 10 #[.slice a n c, .agg #[.int .i64 D, .int .i64 W], .agg #[.int .i64 x, .int .i64 t]] V fun e w' => e = .returned (.tuple #[.agg #[.int .i64 Rb.1, .int .i64 Rb.2.1, .int .i64 Rb.2.2], .int .i64 C]) ∧ Below V.heap.size V w') := Lib.hid (fun V hV => by
          have := Sum_any f a n c D W x t V hV
          rwa [← hRb, ← hC] at this)
        have HCc : Hid (∀ V, EntsIn V a n f → Calls Try.prog 10 #[.slice a n c, .agg #[.int .i64 D, .int .i64 W], .agg #[.int .i64 s, .int .i64 t]] V fun e w' => e = .returned (.tuple #[.agg #[.int .i64 Rc.1, .int .i64 Rc.2.1, .int .i64 Rc.2.2], .int .i64 C]) ∧ Below V.heap.size V w') := Lib.hid (fun V hV => by
          have := Sum_any f a n c D W s t V hV
          rwa [← hRc, ← hC] at this)
        have HCd : Hid (∀ V, EntsIn V a n f → Calls Try.prog 10 #[.slice a n c, .agg #[.int .i64 D, .int .i64 W], .agg #[.int .i64 (-4611686018427387904), .int .i64 4611686018427387904]] V fun e w' => e = .returned (.tuple #[.agg #[.int .i64 Rd.1, .int .i64 Rd.2.1, .int .i64 Rd.2.2], .int .i64 C]) ∧ Below V.heap.size V w') := Lib.hid (fun V hV => by
          have := Sum_any f a n c D W (-4611686018427387904) 4611686018427387904 V hV
          rwa [← hRd, ← hC] at this)
        have HCw : Hid (∀ V, EntsIn V a n f → Calls Try.prog 11 #[.slice a n c, .agg #[.int .i64 D, .int .i64 W]] V (WeeksR f n D W V)) := Lib.hid (fun V hV => Weeks_any f a n c D W V hV)
        have HSUM : Hid (addH Ra Rb = Rc) := Lib.hid (by
          rw [hRa, hRb, hRc]
          unfold sumR
          split
          · rename_i hc
            obtain ⟨-, hr, -⟩ := chk_ok.1 hc
            exact sum_cut hr s x t (by omega) (by omega) n (Nat.le_refl _)
          · rfl)
        have HBD : Hid ((0 ≤ Ra.1 ∧ Ra.1 ≤ 6000000) ∧ (0 ≤ Ra.2.1 ∧ Ra.2.1 ≤ 6000000) ∧ (0 ≤ Ra.2.2 ∧ Ra.2.2 ≤ 6000000)) := Lib.hid (by
          rw [hRa]; unfold sumR
          split
          · rename_i hc
            obtain ⟨hn, hr, hL⟩ := chk_ok.1 hc
            have := sumP_bd hr hL s x n (Nat.le_refl _)
            omega
          · simp)
        have HBE : Hid ((0 ≤ Rb.1 ∧ Rb.1 ≤ 6000000) ∧ (0 ≤ Rb.2.1 ∧ Rb.2.1 ≤ 6000000) ∧ (0 ≤ Rb.2.2 ∧ Rb.2.2 ≤ 6000000)) := Lib.hid (by
          rw [hRb]; unfold sumR
          split
          · rename_i hc
            obtain ⟨hn, hr, hL⟩ := chk_ok.1 hc
            have := sumP_bd hr hL x t n (Nat.le_refl _)
            omega
          · simp)
        have HD := Lib.hid hRd
        have HC := Lib.hid hC
        have HZ := Lib.hid True.intro
        clear hRa hRb hRc hRd hC
        replace HCa := Lib.hid (HCa.out w3 HEn.out)
        go_wp2_with fail
        refine (HCa.out).mono ?_
        rintro e w5 ⟨rfl, hb⟩
        replace y0 := stay hb y0
        replace y1 := stay hb y1
        replace y2 := stay hb y2
        replace y3 := stay hb y3
        replace HEn := Lib.hid (HEn.out.below hb)
        replace HBn := Lib.hid (HBn.out.trans (hb.mono HBn.out.size))
        clear hb HCa
        obtain ⟨V0, hV0⟩ : ∃ V, V = w5.alloc (.cells #[.int .i64 Ra.1, .int .i64 Ra.2.1, .int .i64 Ra.2.2] 30) := ⟨_, rfl⟩
        obtain ⟨k0, hk0⟩ : ∃ g, g = w5.heap.size := ⟨_, rfl⟩
        have Hb0 : Below w5.heap.size w5 V0 := by rw [hV0]; exact (Below.refl _ _).alloc (Nat.le_refl _) _
        have Xa : Hid (HrBox V0 k0 Ra) := Lib.hid (by rw [hV0, hk0]; exact HrBox.new w5 Ra _)
        have ka : w.heap.size < w5.heap.size := World.block_lt_of_cell? _ _ y0
        have kb : w.heap.size + 1 < w5.heap.size := World.block_lt_of_cell? _ _ y2
        replace HEn := Lib.hid (HEn.out.below Hb0)
        replace HBn := Lib.hid (HBn.out.trans (Hb0.mono HBn.out.size))
        have z0 := stay Hb0 y0
        have z1 := stay Hb0 y1
        have z2 := stay Hb0 y2
        have z3 := stay Hb0 y3
        replace HZ := Lib.hid (And.intro z0 (And.intro z1 (And.intro z2 z3)))
        clear Hb0 z0 z1 z2 z3
        replace HCb := Lib.hid (HCb.out V0 HEn.out)
        go_wp2_with fail
        rw [← hV0, ← hk0]
        clear hV0 hk0
        refine (HCb.out).mono ?_
        rintro e w6 ⟨rfl, hb⟩
        replace Xa := Lib.hid (Xa.out.below hb)
        clear y0 y1 y2 y3 ka kb
        obtain ⟨y0, y1, y2, y3⟩ := HZ.out
        replace y0 := stay hb y0
        replace y1 := stay hb y1
        replace y2 := stay hb y2
        replace y3 := stay hb y3
        replace HEn := Lib.hid (HEn.out.below hb)
        replace HBn := Lib.hid (HBn.out.trans (hb.mono HBn.out.size))
        clear hb HCb
        obtain ⟨V1, hV1⟩ : ∃ V, V = w6.alloc (.cells #[.int .i64 Rb.1, .int .i64 Rb.2.1, .int .i64 Rb.2.2] 30) := ⟨_, rfl⟩
        obtain ⟨k1, hk1⟩ : ∃ g, g = w6.heap.size := ⟨_, rfl⟩
        have Hb1 : Below w6.heap.size w6 V1 := by rw [hV1]; exact (Below.refl _ _).alloc (Nat.le_refl _) _
        have Xb : Hid (HrBox V1 k1 Rb) := Lib.hid (by rw [hV1, hk1]; exact HrBox.new w6 Rb _)
        replace Xa := Lib.hid (Xa.out.below Hb1)
        have ka : w.heap.size < w6.heap.size := World.block_lt_of_cell? _ _ y0
        have kb : w.heap.size + 1 < w6.heap.size := World.block_lt_of_cell? _ _ y2
        replace HEn := Lib.hid (HEn.out.below Hb1)
        replace HBn := Lib.hid (HBn.out.trans (Hb1.mono HBn.out.size))
        have z0 := stay Hb1 y0
        have z1 := stay Hb1 y1
        have z2 := stay Hb1 y2
        have z3 := stay Hb1 y3
        replace HZ := Lib.hid (And.intro z0 (And.intro z1 (And.intro z2 z3)))
        clear Hb1 z0 z1 z2 z3
        replace HCc := Lib.hid (HCc.out V1 HEn.out)
        go_wp2_with fail
        rw [← hV1, ← hk1]
        clear hV1 hk1
        refine (HCc.out).mono ?_
        rintro e w7 ⟨rfl, hb⟩
        replace Xa := Lib.hid (Xa.out.below hb)
        replace Xb := Lib.hid (Xb.out.below hb)
        clear y0 y1 y2 y3 ka kb
        obtain ⟨y0, y1, y2, y3⟩ := HZ.out
        replace y0 := stay hb y0
        replace y1 := stay hb y1
        replace y2 := stay hb y2
        replace y3 := stay hb y3
        replace HEn := Lib.hid (HEn.out.below hb)
        replace HBn := Lib.hid (HBn.out.trans (hb.mono HBn.out.size))
        clear hb HCc
        obtain ⟨⟨xa0, xa1, xa2⟩, -⟩ := Xa.out
        obtain ⟨⟨xb0, xb1, xb2⟩, -⟩ := Xb.out
        have q0 := Xa.out.lt
        have q1 := Xb.out.lt
        have ka : w.heap.size < w7.heap.size := World.block_lt_of_cell? _ _ y0
        have kb : w.heap.size + 1 < w7.heap.size := World.block_lt_of_cell? _ _ y2
        obtain ⟨⟨a0, a1⟩, ⟨a2, a3⟩, a4, a5⟩ := HBD.out
        obtain ⟨⟨b0, b1⟩, ⟨b2, b3⟩, b4, b5⟩ := HBE.out
        have hsum := HSUM.out
        clear HSUM HBD HBE Xa Xb HZ
        obtain ⟨Ra0, Ra1, Ra2⟩ := Ra
        obtain ⟨Rb0, Rb1, Rb2⟩ := Rb
        subst hsum
        simp only [addH] at *
        by_cases h0 : C = 0
        · subst h0
          obtain ⟨hn, hr, hL⟩ := chk_ok.1 HC.out.symm
          have hRd : Rd = sumP D W (-4611686018427387904) 4611686018427387904 f n := by rw [HD.out]; unfold sumR; rw [if_pos HC.out.symm]
          have hRdb := sumP_bd hr hL (-4611686018427387904) 4611686018427387904 n (Nat.le_refl _)
          rw [← hRd] at hRdb
          obtain ⟨V2, hV2⟩ : ∃ V, V = w7.alloc (.cells #[.int .i64 (Ra0 + Rb0), .int .i64 (Ra1 + Rb1), .int .i64 (Ra2 + Rb2)] 30) := ⟨_, rfl⟩
          have hbV2 : Below w7.heap.size w7 V2 := by rw [hV2]; exact (Below.refl _ _).alloc (Nat.le_refl _) _
          have HE2 := Lib.hid (HEn.out.below hbV2)
          have HB2 := Lib.hid (HBn.out.trans (hbV2.mono HBn.out.size))
          have z0 := stay hbV2 y0
          have z1 := stay hbV2 y1
          replace HCd := Lib.hid (HCd.out V2 HE2.out)
          have hzV2 : w.heap.size + 1 < V2.heap.size := by rw [hV2]; simp; omega
          clear hbV2 HEn HBn
          go_wp2_with fail
          rw [← hV2]
          clear hV2 xa0 xa1 xa2 xb0 xb1 xb2 q0 q1 y0 y1 y2 y3
          refine (HCd.out).mono ?_
          rintro e w8 ⟨rfl, hb8⟩
          replace z0 := stay hb8 z0
          replace z1 := stay hb8 z1
          have HE8 := Lib.hid (HE2.out.below hb8)
          have HB8 := Lib.hid (HB2.out.trans (hb8.mono HB2.out.size))
          have kw : w.heap.size < w8.heap.size := World.block_lt_of_cell? _ _ z0
          have kw1 : w.heap.size < w8.heap.size + 1 := by omega
          clear hb8 HE2 HB2 HCd
          obtain ⟨g, hg⟩ : ∃ g, g = w8.heap.size := ⟨_, rfl⟩
          obtain ⟨W9, hW9⟩ : ∃ V, V = (w8.alloc (.cells #[.int .i64 Rd.1, .int .i64 Rd.2.1, .int .i64 Rd.2.2] 30)).alloc (.cells #[.int .i64 0, .int .i64 0, .int .i64 0] 30) := ⟨_, rfl⟩
          have hz8 : (w8.alloc (.cells #[.int .i64 Rd.1, .int .i64 Rd.2.1, .int .i64 Rd.2.2] 30)).heap.size = g + 1 := by rw [hg]; simp
          have hb9 : Below w8.heap.size w8 W9 := by rw [hW9]; exact ((Below.refl _ _).alloc (Nat.le_refl _) _).alloc (by simp) _
          have XS : HrBox W9 (g + 1) (0, 0, 0) := by
            have := HrBox.new (w8.alloc (.cells #[.int .i64 Rd.1, .int .i64 Rd.2.1, .int .i64 Rd.2.2] 30)) (0, 0, 0) 30
            rw [hz8] at this
            rw [hW9]; exact this
          have XD : HrBox W9 g Rd := by
            have := HrBox.new w8 Rd 30
            rw [← hg] at this
            rw [hW9]; exact this.below ((Below.refl _ _).alloc (Nat.le_refl _) _)
          have HW := Lib.hid (HCw.out W9 (HE8.out.below hb9))
          have HB9 := Lib.hid (HB8.out.trans (hb9.mono HB8.out.size))
          have v0 := stay hb9 z0
          have v1 := stay hb9 z1
          have HC' := HC.out.symm
          have HR := Lib.hid (And.intro hr (And.intro hL hRd))
          have HXS := Lib.hid XS
          have HXD := Lib.hid XD
          have HV := Lib.hid (And.intro v0 v1)
          have hz9 : W9.heap.size = g + 1 + 1 := by rw [hW9, World.size_alloc, hz8]
          clear hb9 HE8 HB8 HCw XS XD v0 v1 hr hRd
          go_wp2_with fail
          rw [← hW9, ← hg]
          rw [← hg] at kw kw1
          clear hW9 hz8 hg z0 z1
          refine (HW.out).mono ?_
          rintro e w10 ⟨E, pw, cw, rfl, h1, -, hfr, hb10⟩
          obtain ⟨hnd, hmem, -, hHr⟩ := h1 HC'
          obtain ⟨G, hG⟩ : ∃ G : Int → Hr, G = fun m => (stt D W f n m).2 := ⟨_, rfl⟩
          obtain ⟨hr, hL', hRd⟩ := HR.out
          have HTOT : Hid (sumW G E = Rd) := Lib.hid (by rw [hRd, hG]; exact sum_weeks hr hnd (weeks_mons hmem) n (Nat.le_refl _))
          have HPL : Hid (∀ m, (G m).1 ≤ W ∧ (0 ≤ (G m).1 ∧ (G m).1 ≤ 500000) ∧ (0 ≤ (G m).2.1 ∧ (G m).2.1 ≤ 500000) ∧ (0 ≤ (G m).2.2 ∧ (G m).2.2 ≤ 500000)) := Lib.hid (fun m => by
            have a := week_plain hr hL' m n (Nat.le_refl _)
            have b := stt_bd hr hL' n (Nat.le_refl _) m
            rw [hG]
            simp only
            refine ⟨?_, by omega, by omega, by omega⟩
            rw [a]; unfold mn; omega)
          have HFR : Hid (∀ a, pw = some a → g + 1 < a.block) := Lib.hid (fun a ha => by have := hfr a ha; omega)
          have hEl := nodup_len E (monsL f n) hnd (fun m hm => (hmem m).1 hm)
          rw [monsL_len] at hEl
          have HSB : Hid (∀ j, j ≤ E.length → (0 ≤ (sumW G (E.take j)).1 ∧ (sumW G (E.take j)).1 ≤ 500000 * j) ∧ (0 ≤ (sumW G (E.take j)).2.1 ∧ (sumW G (E.take j)).2.1 ≤ 500000 * j) ∧ (0 ≤ (sumW G (E.take j)).2.2 ∧ (sumW G (E.take j)).2.2 ≤ 500000 * j)) := Lib.hid (fun j => by
            induction j with
            | zero => intro _; simp [sumW]
            | succ j ih =>
              intro hj
              have ih := ih (by omega)
              have hp := HPL.out (E.getD j 0)
              rw [take_next E (by omega), sumW_app]
              simp only [addH]
              omega)
          have HH : Hid (HrsIn w10 pw E.length (fun j => G (E.getD j 0))) := Lib.hid (by rw [hG]; exact hHr)
          have v0 := stay hb10 HV.out.1
          have v1 := stay hb10 HV.out.2
          have X10 := Lib.hid (HXS.out.below hb10)
          have D10 := Lib.hid (HXD.out.below hb10)
          have HB10 := Lib.hid (HB9.out.trans (hb10.mono HB9.out.size))
          clear h1 hnd hmem hHr hG hr hL' hRd HR HXS HXD HV hb10 HB9 HC HC' HD hL hRdb HW
          go_wp2
          go_loopw [19] (fun iv wr => ∃ j : Nat, j ≤ E.length ∧ iv = .int .i64 j ∧ Hid (HrBox wr (g + 1) (sumW G (E.take j))) ∧ Hid (∀ b : Nat, b ≠ g + 1 → wr.heap[b]? = w10.heap[b]?) ∧ Hid (Below w.heap.size w wr)) (fun iv _ => E.length - (RowKit.intOf iv).toNat)
          case atStart => exact ⟨0, by omega, rfl, X10, Lib.hid (fun _ _ => rfl), HB10⟩
          case round =>
            obtain ⟨j, hj, rfl, HX, HO, HB⟩ := hrel
            have sm : ∀ {b i v}, b ≠ g + 1 → w10.cell? ⟨b, i, none⟩ = some v → wr.cell? ⟨b, i, none⟩ = some v := fun {b i v} hb h => (World.cell?_of_block (w := w10) (a := ⟨b, i, none⟩) (HO.out b hb)).trans h
            by_cases hlt : j < E.length
            · have hlI : (j : Int) < (E.length : Int) := by omega
              have hj4 : (j : Int) < 300 := by omega
              rcases HH.out with h | ⟨b, o, rfl, hc⟩
              · omega
              obtain ⟨m, hm⟩ : ∃ m, m = E.getD j 0 := ⟨_, rfl⟩
              have xa : w10.cell? ⟨b, o + j * 3, none⟩ = some (.int .i64 (G (E.getD j 0)).1) := (hc j hlt).1
              have xb : w10.cell? ⟨b, o + j * 3 + 1, none⟩ = some (.int .i64 (G (E.getD j 0)).2.1) := (hc j hlt).2.1
              have xc : w10.cell? ⟨b, o + j * 3 + 2, none⟩ = some (.int .i64 (G (E.getD j 0)).2.2) := (hc j hlt).2.2
              have hbne : b ≠ g + 1 := by have := HFR.out _ rfl; simp only at this; omega
              replace xa := sm hbne xa
              replace xb := sm hbne xb
              replace xc := sm hbne xc
              have u1 := sm (by omega) v1
              have hX1 := HX.out.lt
              have kb : b < wr.heap.size := World.block_lt_of_cell? _ _ xa
              rw [← hm] at xa xb xc
              obtain ⟨p1, ⟨p2, p3⟩, ⟨p4, p5⟩, p6, p7⟩ := HPL.out m
              have HT : Hid (sumW G (E.take (j + 1)) = addH (sumW G (E.take j)) (G m)) := Lib.hid (by rw [take_next E hlt, sumW_app, hm])
              have hSB := HSB.out j hj
              obtain ⟨⟨q1, q2⟩, ⟨q3, q4⟩, q5, q6⟩ := hSB
              generalize G m = gm at *
              obtain ⟨g1, g2, g3⟩ := gm
              generalize sumW G (E.take j) = sj at *
              obtain ⟨s1, s2, s3⟩ := sj
              simp only [addH] at *
              have e1 : decide (W < g1) = false := decide_eq_false (by omega)
              obtain ⟨⟨t1, t2, t3⟩, f1, f2, f3⟩ := HX.out
              simp only at t1 t2 t3
              clear hc sm HX
              go_wp2
              go_quiet (fail)
              obtain ⟨V, hV⟩ : ∃ V, V = wr.drewN nq := ⟨_, rfl⟩
              have HOV : Hid (∀ b : Nat, b ≠ g + 1 → V.heap[b]? = w10.heap[b]?) := Lib.hid (by rw [hV]; exact HO.out)
              have HBV : Hid (Below w.heap.size w V) := Lib.hid (by rw [hV]; exact below_drewN HB.out _)
              rw [← hV]
              have toV : ∀ p, V.cell? p = wr.cell? p := fun p => by rw [hV]; rfl
              have toF : ∀ p, V.frozen? p = wr.frozen? p := fun p => by rw [hV]; rfl
              have xa := (toV _).trans xa
              have xb := (toV _).trans xb
              have xc := (toV _).trans xc
              have t1 := (toV _).trans t1
              have t2 := (toV _).trans t2
              have t3 := (toV _).trans t3
              have f1 := (toF _).trans f1
              have f2 := (toF _).trans f2
              have f3 := (toF _).trans f3
              clear hV toV toF HO HB
              go_wp2
              go_region
              obtain ⟨V1, hV1⟩ : ∃ V', V' = (V.setCell ⟨g + 1, 0, none⟩ (.int .i64 (s1 + g1))).drew := ⟨_, rfl⟩
              rw [← hV1]
              have far : ∀ {x i v}, x ≠ g + 1 → V.cell? ⟨x, i, none⟩ = some v → V1.cell? ⟨x, i, none⟩ = some v := fun hx h => by rw [hV1]; exact (set_far (.inl hx)).trans h
              have frz : ∀ {x i}, V.frozen? ⟨x, i, none⟩ = false → V1.frozen? ⟨x, i, none⟩ = false := fun h => by rw [hV1]; exact (World.frozen?_setCell ..).trans h
              replace HOV : Hid (∀ b : Nat, b ≠ g + 1 → V1.heap[b]? = w10.heap[b]?) := Lib.hid (fun b hb => by rw [hV1]; exact (Below.heap_setCell _ _ _ _ hb).trans (HOV.out b hb))
              replace HBV : Hid (Below w.heap.size w V1) := Lib.hid (by rw [hV1]; exact (HBV.out.setCell (by show w.heap.size ≤ g + 1; omega) _).drew)
              replace xa := far hbne xa
              replace xb := far hbne xb
              replace xc := far hbne xc
              replace t1 : V1.cell? ⟨g + 1, 0, none⟩ = some (.int .i64 (s1 + g1)) := by rw [hV1]; exact set_in t1
              replace t2 : V1.cell? ⟨g + 1, 1, none⟩ = some (.int .i64 (s2)) := by rw [hV1]; exact (set_far (by omega)).trans t2
              replace t3 : V1.cell? ⟨g + 1, 2, none⟩ = some (.int .i64 (s3)) := by rw [hV1]; exact (set_far (by omega)).trans t3
              replace f1 := frz f1
              replace f2 := frz f2
              replace f3 := frz f3
              clear far frz hV1
              go_wp2
              go_region
              obtain ⟨V2, hV2⟩ : ∃ V', V' = (V1.setCell ⟨g + 1, 1, none⟩ (.int .i64 (s2 + g2))).drew := ⟨_, rfl⟩
              rw [← hV2]
              have far : ∀ {x i v}, x ≠ g + 1 → V1.cell? ⟨x, i, none⟩ = some v → V2.cell? ⟨x, i, none⟩ = some v := fun hx h => by rw [hV2]; exact (set_far (.inl hx)).trans h
              have frz : ∀ {x i}, V1.frozen? ⟨x, i, none⟩ = false → V2.frozen? ⟨x, i, none⟩ = false := fun h => by rw [hV2]; exact (World.frozen?_setCell ..).trans h
              replace HOV : Hid (∀ b : Nat, b ≠ g + 1 → V2.heap[b]? = w10.heap[b]?) := Lib.hid (fun b hb => by rw [hV2]; exact (Below.heap_setCell _ _ _ _ hb).trans (HOV.out b hb))
              replace HBV : Hid (Below w.heap.size w V2) := Lib.hid (by rw [hV2]; exact (HBV.out.setCell (by show w.heap.size ≤ g + 1; omega) _).drew)
              replace xa := far hbne xa
              replace xb := far hbne xb
              replace xc := far hbne xc
              replace t1 : V2.cell? ⟨g + 1, 0, none⟩ = some (.int .i64 (s1 + g1)) := by rw [hV2]; exact (set_far (by omega)).trans t1
              replace t2 : V2.cell? ⟨g + 1, 1, none⟩ = some (.int .i64 (s2 + g2)) := by rw [hV2]; exact set_in t2
              replace t3 : V2.cell? ⟨g + 1, 2, none⟩ = some (.int .i64 (s3)) := by rw [hV2]; exact (set_far (by omega)).trans t3
              replace f1 := frz f1
              replace f2 := frz f2
              replace f3 := frz f3
              clear far frz hV2
              go_wp2
              go_region
              obtain ⟨V3, hV3⟩ : ∃ V', V' = (V2.setCell ⟨g + 1, 2, none⟩ (.int .i64 (s3 + g3))).drew := ⟨_, rfl⟩
              rw [← hV3]
              have far : ∀ {x i v}, x ≠ g + 1 → V2.cell? ⟨x, i, none⟩ = some v → V3.cell? ⟨x, i, none⟩ = some v := fun hx h => by rw [hV3]; exact (set_far (.inl hx)).trans h
              have frz : ∀ {x i}, V2.frozen? ⟨x, i, none⟩ = false → V3.frozen? ⟨x, i, none⟩ = false := fun h => by rw [hV3]; exact (World.frozen?_setCell ..).trans h
              replace HOV : Hid (∀ b : Nat, b ≠ g + 1 → V3.heap[b]? = w10.heap[b]?) := Lib.hid (fun b hb => by rw [hV3]; exact (Below.heap_setCell _ _ _ _ hb).trans (HOV.out b hb))
              replace HBV : Hid (Below w.heap.size w V3) := Lib.hid (by rw [hV3]; exact (HBV.out.setCell (by show w.heap.size ≤ g + 1; omega) _).drew)
              replace xa := far hbne xa
              replace xb := far hbne xb
              replace xc := far hbne xc
              replace t1 : V3.cell? ⟨g + 1, 0, none⟩ = some (.int .i64 (s1 + g1)) := by rw [hV3]; exact (set_far (by omega)).trans t1
              replace t2 : V3.cell? ⟨g + 1, 1, none⟩ = some (.int .i64 (s2 + g2)) := by rw [hV3]; exact (set_far (by omega)).trans t2
              replace t3 : V3.cell? ⟨g + 1, 2, none⟩ = some (.int .i64 (s3 + g3)) := by rw [hV3]; exact set_in t3
              replace f1 := frz f1
              replace f2 := frz f2
              replace f3 := frz f3
              clear far frz hV3
              have HXV : Hid (HrBox V3 (g + 1) (sumW G (E.take (j + 1)))) := Lib.hid (by rw [HT.out]; exact ⟨⟨t1, t2, t3⟩, f1, f2, f3⟩)
              clear xa xb xc t1 t2 t3 f1 f2 f3
              go_wp2
              exact ⟨⟨j + 1, by omega, by go_num, HXV, HOV, HBV⟩, by simp [RowKit.intOf]; omega⟩
            · obtain rfl : j = E.length := by omega
              have hx := HX.out
              rw [List.take_length, HTOT.out] at hx
              have hd := D10.out.block (HO.out g (by omega))
              obtain ⟨⟨t1, t2, t3⟩, -⟩ := hx
              obtain ⟨⟨d1, d2, d3⟩, -⟩ := hd
              clear sm HX D10
              obtain ⟨Rd1, Rd2, Rd3⟩ := Rd
              simp only at *
              go_wp2
              go_ret
              exact ⟨rfl, HB.out⟩
        · have h0' : (C != 0) = true := by simpa using h0
          go_wp2
          go_ret
          exact ⟨rfl, HBn.out.alloc HBn.out.size _⟩

end Go.Proofs.Ytlfflnfodnegnaa
