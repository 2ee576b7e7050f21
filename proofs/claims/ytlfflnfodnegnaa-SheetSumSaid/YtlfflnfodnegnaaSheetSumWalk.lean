/-
  What is proved: the walk of the statement SheetSum: the call returns true. Conditions: none beyond what came in.
-/
import Derived.Test.YtlfflnfodnegnaaSkX
import Derived.Test.YtlfflnfodnegnaaFrameK
import Derived.Deep.RegionHeld3
namespace Go.Proofs.Ytlfflnfodnegnaa
open Go Go.RowKit Go.Proofs
set_option linter.unusedVariables false

theorem ss_drew {W0 : World} : Below W0.heap.size W0 W0.drew := (Below.refl _ _).drew
theorem ss_call {C : Prop} {W0 w w' : World} (hb : Below w.heap.size w w') (h : C ∧ Below W0.heap.size W0 w) : Below W0.heap.size W0 w' := h.2.trans (hb.mono h.2.size)
theorem ss_mons {f : Nat → En} {n : Nat} (hr : Rt f n) {E : List Int} (h2 : ∀ m, m ∈ E ↔ m ∈ monsL f n) (h3 : ∀ i, i + 1 < E.length → E.getD i 0 < E.getD (i + 1) 0) : E = monsP f n := by
  obtain ⟨p1, p2⟩ := monsP_mem hr n (Nat.le_refl _)
  exact rise_one (rise_pw h3) p2 (fun m => by rw [h2, monsL_mem, p1])

set_option maxHeartbeats 4000000 in
set_option maxRecDepth 100000 in
theorem walkSheetSum (a : Option Addr) (n c : Nat) (f : Nat → En) (D W s t : Int) (w : World) (hA : EntsArg w a n c f) (D64 : in64 D) (W64 : in64 W) (s64 : in64 s) (t64 : in64 t) :
    Calls Try.prog 3 #[.slice a n c, .agg #[.int .i64 D, .int .i64 W], .agg #[.int .i64 s, .int .i64 t]] w fun e w' => e = .returned (.bool true) ∧ Below w.heap.size w w' := by
  obtain ⟨hE, -, -⟩ := hA
  obtain ⟨W2, hW2⟩ : ∃ W2, W2 = (w.alloc (.cells #[.int .i64 D, .int .i64 W] 24)).alloc (.cells #[.int .i64 s, .int .i64 t] 27) := ⟨_, rfl⟩
  have hza : (w.alloc (.cells #[.int .i64 D, .int .i64 W] 24)).heap.size = w.heap.size + 1 := by simp
  have hz2 : W2.heap.size = w.heap.size + 1 + 1 := by rw [hW2]; simp
  have hb0 : Below w.heap.size w W2 := by rw [hW2]; exact ((Below.refl w.heap.size w).alloc (Nat.le_refl _) _).alloc (by simp) _
  have c0 : W2.cell? ⟨w.heap.size, 0, none⟩ = some (.int .i64 D) := by rw [hW2, World.cell?_alloc_lt _ _ _ (by rw [hza]; show w.heap.size < _; omega), new_at]; rfl
  have c1 : W2.cell? ⟨w.heap.size, 1, none⟩ = some (.int .i64 W) := by rw [hW2, World.cell?_alloc_lt _ _ _ (by rw [hza]; show w.heap.size < _; omega), new_at]; rfl
  have c2 : W2.cell? ⟨w.heap.size + 1, 0, none⟩ = some (.int .i64 s) := by rw [hW2, ← hza, new_at]; rfl
  have c3 : W2.cell? ⟨w.heap.size + 1, 1, none⟩ = some (.int .i64 t) := by rw [hW2, ← hza, new_at]; rfl
  have HA := Lib.hid (awake_any W2)
  have HE := Lib.hid hE
  clear hE hza
  go_enter Try.func3, Try.ntmps3
  go_wp2_with fail
  rw [← hW2]
  clear hW2
  refine (HA.out).mono ?_
  rintro e w3 ⟨rfl, hb3⟩
  have y0 := stay hb3 c0
  have y1 := stay hb3 c1
  have y2 := stay hb3 c2
  have y3 := stay hb3 c3
  have HB3 := Lib.hid (hb0.trans (hb3.mono (by omega)))
  have hz3 := hb3.size
  have HE3 := Lib.hid (HE.out.below HB3.out)
  clear hb3 hb0 c0 c1 c2 c3 HA HE
  have hcs : (40 < n ∧ n ≤ 4096) ∨ (40 < n ∧ 4096 < n ∧ 5000 < n) ∨ (40 < n ∧ 4096 < n ∧ n ≤ 5000) ∨ n ≤ 40 := by omega
  rcases hcs with ⟨g1, g2⟩ | ⟨g1, g2, g3⟩ | ⟨g1, g2, g3⟩ | g1
  · have e1 : (40 : Int) < (n : Int) := by omega
    have e2 : (n : Int) ≤ 4096 := by omega
    go_wp2
    go_ret
    exact ⟨rfl, HB3.out⟩
  · have e1 : (40 : Int) < (n : Int) := by omega
    have e2 : ¬ (n : Int) ≤ 4096 := by omega
    have e3 : (5000 : Int) < (n : Int) := by omega
    go_wp2
    go_ret
    exact ⟨rfl, HB3.out⟩
  · have e1 : (40 : Int) < (n : Int) := by omega
    have e2 : ¬ (n : Int) ≤ 4096 := by omega
    have e3 : ¬ (5000 : Int) < (n : Int) := by omega
    obtain ⟨C, hC⟩ : ∃ C, C = chk f n D W := ⟨_, rfl⟩
    have h0 : C ≠ 0 := by rw [hC]; unfold chk; rw [if_pos g2]; decide
    have HS := Sum_any f a n c D W s t w3 HE3.out
    rw [show sumR f n D W s t = (0, 0, 0) by unfold sumR; rw [if_neg (fun h => h0 (hC.trans h))], ← hC] at HS
    replace HS := Lib.hid HS
    have HCC := Lib.hid hC.symm
    clear hC
    have HWKS : Hid (∀ V, EntsIn V a n f → Calls Try.prog 11 #[.slice a n c, .agg #[.int .i64 D, .int .i64 W]] V (WeeksR f n D W V)) := Lib.hid (fun V hV => Weeks_any f a n c D W V hV)
    have HOF : Hid (∀ (C : Prop) (W0 V : World), EntsIn W0 a n f → (C ∧ Below W0.heap.size W0 V) → Calls Try.prog 13 #[.slice a n c] V fun e w' => ∃ (q : Option Addr) (c' : Nat), e = .returned (.slice q n c') ∧ EntsIn w' q n f ∧ (∀ a, q = some a → V.heap.size ≤ a.block) ∧ Below V.heap.size V w') := Lib.hid (fun _ W0 V h k => of_any f a n c V (h.below k.2) (by omega))
    have HCK : Hid (∀ V q c', EntsIn V q n f → Calls Try.prog 12 #[.slice q n c', .int .i64 D, .int .i64 W] V fun e w' => e = .returned (.int .i64 C) ∧ Below V.heap.size V w') := Lib.hid (fun V q c' h => by have := rCheck_any f q n c' D W V h; rwa [HCC.out] at this)
    go_wp2_with fail
    refine (HS.out).mono ?_
    rintro e w4 ⟨rfl, hb4⟩
    replace y0 := stay hb4 y0
    replace y1 := stay hb4 y1
    replace y2 := stay hb4 y2
    replace y3 := stay hb4 y3
    have HE4 := Lib.hid (HE3.out.below hb4)
    have HB4 := Lib.hid (HB3.out.trans (hb4.mono (by omega)))
    have hz4 := hb4.size
    obtain ⟨V5, hV5⟩ : ∃ V5, V5 = w4.alloc (.cells #[.int .i64 0, .int .i64 0, .int .i64 0] 30) := ⟨_, rfl⟩
    have hx5 : HrBox V5 w4.heap.size (0, 0, 0) := by rw [hV5]; exact HrBox.new w4 (0, 0, 0) _
    have hb5 : Below w4.heap.size w4 V5 := by rw [hV5]; exact (Below.refl _ _).alloc (Nat.le_refl _) _
    have k0 : w.heap.size < w4.heap.size := by omega
    have k1 : w.heap.size + 1 < w4.heap.size := by omega
    have hz5 : V5.heap.size = w4.heap.size + 1 := by rw [hV5]; simp
    have u0 := stay hb5 y0
    have u1 := stay hb5 y1
    have u2 := stay hb5 y2
    have u3 := stay hb5 y3
    have HU := Lib.hid (And.intro u0 (And.intro u1 (And.intro u2 u3)))
    have HE5 := Lib.hid (HE4.out.below hb5)
    have HB5 := Lib.hid (HB4.out.trans (hb5.mono (by omega)))
    have HX5 := Lib.hid hx5
    have HW5 := Lib.hid (HWKS.out V5 HE5.out)
    clear HS HE3 HB3 hb4 HE4 HB4 hb5 u0 u1 u2 u3 hx5 HWKS
    go_wp2_with fail
    rw [← hV5]
    obtain ⟨g, hg⟩ : ∃ g, g = w4.heap.size := ⟨_, rfl⟩
    rw [← hg] at HX5 hz5 ⊢
    have hgz : w.heap.size + 1 < g := by omega
    clear hV5 y0 y1 y2 y3 k0 k1 hg hz4
    refine (HW5.out).mono ?_
    rintro e w6 ⟨E, pe, ce, rfl, hok, hno, hbase, hb6⟩
    have HE6 := Lib.hid (HE5.out.below hb6)
    have HB6 := Lib.hid (HB5.out.trans (hb6.mono HB5.out.size))
    have HX6 := Lib.hid (HX5.out.below hb6)
    obtain ⟨u0, u1, u2, u3⟩ := HU.out
    replace u0 := stay hb6 u0
    replace u1 := stay hb6 u1
    replace u2 := stay hb6 u2
    replace u3 := stay hb6 u3
    have HZ6 : Hid (V5.heap.size ≤ w6.heap.size) := Lib.hid hb6.size
    clear HW5 HE5 HB5 HX5 HU

    obtain rfl := hno (by rw [HCC.out]; exact h0)
    simp only [List.length_nil]
    clear hok hno hbase hb6
    have KP : Hid (∀ w', Below w6.heap.size w6 w' → (w'.cell? ⟨w.heap.size, 0, none⟩ = some (.int .i64 D) ∧ w'.cell? ⟨w.heap.size, 1, none⟩ = some (.int .i64 W)) ∧ Below w6.heap.size w6 w') := Lib.hid (fun w' h => ⟨⟨stay h u0, stay h u1⟩, h⟩)
    clear u0 u1 u2 u3
    go_wp2
    go_region_held3 (fun w' => (w'.cell? ⟨w.heap.size, 0, none⟩ = some (.int .i64 D) ∧ w'.cell? ⟨w.heap.size, 1, none⟩ = some (.int .i64 W)) ∧ Below w6.heap.size w6 w') (first | exact KP.out _ ss_drew | exact KP.out _ (by assumption)) (first | (go_at_call 13; refine (HOF.out _ _ _ HE6.out (by assumption)).mono ?_; rintro e wx ⟨qx, qxc, rfl, hewx, -, hbwx⟩; have hkwx := ss_call hbwx (by assumption)) | (go_at_call 12; refine (HCK.out _ _ _ (by assumption)).mono ?_; rintro e wy ⟨rfl, hbwy⟩; have hkwy := ss_call hbwy (by assumption)))
    have HX := HX6.out.below hkwy
    obtain ⟨⟨x0, x1, x2⟩, -⟩ := HX
    have HF := Lib.hid (HB6.out.trans (hkwy.mono HB6.out.size))
    have eC : (C == C) = true := by simp
    have eD : (C != 0) = true := by simpa using h0
    go_wp2
    go_ret
    exact ⟨rfl, HF.out⟩
  · have e1 : ¬ (40 : Int) < (n : Int) := by omega
    have e3 : ¬ (5000 : Int) < (n : Int) := by omega
    obtain ⟨C, hC⟩ : ∃ C, C = chk f n D W := ⟨_, rfl⟩
    by_cases h0 : C ≠ 0
    · have HS := Sum_any f a n c D W s t w3 HE3.out
      rw [show sumR f n D W s t = (0, 0, 0) by unfold sumR; rw [if_neg (fun h => h0 (hC.trans h))], ← hC] at HS
      replace HS := Lib.hid HS
      have HCC := Lib.hid hC.symm
      clear hC
      have HWKS : Hid (∀ V, EntsIn V a n f → Calls Try.prog 11 #[.slice a n c, .agg #[.int .i64 D, .int .i64 W]] V (WeeksR f n D W V)) := Lib.hid (fun V hV => Weeks_any f a n c D W V hV)
      have HOF : Hid (∀ (C : Prop) (W0 V : World), EntsIn W0 a n f → (C ∧ Below W0.heap.size W0 V) → Calls Try.prog 13 #[.slice a n c] V fun e w' => ∃ (q : Option Addr) (c' : Nat), e = .returned (.slice q n c') ∧ EntsIn w' q n f ∧ (∀ a, q = some a → V.heap.size ≤ a.block) ∧ Below V.heap.size V w') := Lib.hid (fun _ W0 V h k => of_any f a n c V (h.below k.2) (by omega))
      have HCK : Hid (∀ V q c', EntsIn V q n f → Calls Try.prog 12 #[.slice q n c', .int .i64 D, .int .i64 W] V fun e w' => e = .returned (.int .i64 C) ∧ Below V.heap.size V w') := Lib.hid (fun V q c' h => by have := rCheck_any f q n c' D W V h; rwa [HCC.out] at this)
      go_wp2_with fail
      refine (HS.out).mono ?_
      rintro e w4 ⟨rfl, hb4⟩
      replace y0 := stay hb4 y0
      replace y1 := stay hb4 y1
      replace y2 := stay hb4 y2
      replace y3 := stay hb4 y3
      have HE4 := Lib.hid (HE3.out.below hb4)
      have HB4 := Lib.hid (HB3.out.trans (hb4.mono (by omega)))
      have hz4 := hb4.size
      obtain ⟨V5, hV5⟩ : ∃ V5, V5 = w4.alloc (.cells #[.int .i64 0, .int .i64 0, .int .i64 0] 30) := ⟨_, rfl⟩
      have hx5 : HrBox V5 w4.heap.size (0, 0, 0) := by rw [hV5]; exact HrBox.new w4 (0, 0, 0) _
      have hb5 : Below w4.heap.size w4 V5 := by rw [hV5]; exact (Below.refl _ _).alloc (Nat.le_refl _) _
      have k0 : w.heap.size < w4.heap.size := by omega
      have k1 : w.heap.size + 1 < w4.heap.size := by omega
      have hz5 : V5.heap.size = w4.heap.size + 1 := by rw [hV5]; simp
      have u0 := stay hb5 y0
      have u1 := stay hb5 y1
      have u2 := stay hb5 y2
      have u3 := stay hb5 y3
      have HU := Lib.hid (And.intro u0 (And.intro u1 (And.intro u2 u3)))
      have HE5 := Lib.hid (HE4.out.below hb5)
      have HB5 := Lib.hid (HB4.out.trans (hb5.mono (by omega)))
      have HX5 := Lib.hid hx5
      have HW5 := Lib.hid (HWKS.out V5 HE5.out)
      clear HS HE3 HB3 hb4 HE4 HB4 hb5 u0 u1 u2 u3 hx5 HWKS
      go_wp2_with fail
      rw [← hV5]
      obtain ⟨g, hg⟩ : ∃ g, g = w4.heap.size := ⟨_, rfl⟩
      rw [← hg] at HX5 hz5 ⊢
      have hgz : w.heap.size + 1 < g := by omega
      clear hV5 y0 y1 y2 y3 k0 k1 hg hz4
      refine (HW5.out).mono ?_
      rintro e w6 ⟨E, pe, ce, rfl, hok, hno, hbase, hb6⟩
      have HE6 := Lib.hid (HE5.out.below hb6)
      have HB6 := Lib.hid (HB5.out.trans (hb6.mono HB5.out.size))
      have HX6 := Lib.hid (HX5.out.below hb6)
      obtain ⟨u0, u1, u2, u3⟩ := HU.out
      replace u0 := stay hb6 u0
      replace u1 := stay hb6 u1
      replace u2 := stay hb6 u2
      replace u3 := stay hb6 u3
      have HZ6 : Hid (V5.heap.size ≤ w6.heap.size) := Lib.hid hb6.size
      clear HW5 HE5 HB5 HX5 HU

      obtain rfl := hno (by rw [HCC.out]; exact h0)
      simp only [List.length_nil]
      clear hok hno hbase hb6
      have KP : Hid (∀ w', Below w6.heap.size w6 w' → (w'.cell? ⟨w.heap.size, 0, none⟩ = some (.int .i64 D) ∧ w'.cell? ⟨w.heap.size, 1, none⟩ = some (.int .i64 W)) ∧ Below w6.heap.size w6 w') := Lib.hid (fun w' h => ⟨⟨stay h u0, stay h u1⟩, h⟩)
      clear u0 u1 u2 u3
      go_wp2
      go_region_held3 (fun w' => (w'.cell? ⟨w.heap.size, 0, none⟩ = some (.int .i64 D) ∧ w'.cell? ⟨w.heap.size, 1, none⟩ = some (.int .i64 W)) ∧ Below w6.heap.size w6 w') (first | exact KP.out _ ss_drew | exact KP.out _ (by assumption)) (first | (go_at_call 13; refine (HOF.out _ _ _ HE6.out (by assumption)).mono ?_; rintro e wx ⟨qx, qxc, rfl, hewx, -, hbwx⟩; have hkwx := ss_call hbwx (by assumption)) | (go_at_call 12; refine (HCK.out _ _ _ (by assumption)).mono ?_; rintro e wy ⟨rfl, hbwy⟩; have hkwy := ss_call hbwy (by assumption)))
      have HX := HX6.out.below hkwy
      obtain ⟨⟨x0, x1, x2⟩, -⟩ := HX
      have HF := Lib.hid (HB6.out.trans (hkwy.mono HB6.out.size))
      have eC : (C == C) = true := by simp
      have eD : (C != 0) = true := by simpa using h0
      go_wp2
      go_ret
      exact ⟨rfl, HF.out⟩
    · have h0 : C = 0 := Classical.byContradiction h0
      obtain ⟨hn, hr, hL⟩ := chk_ok.1 (hC.symm.trans h0)
      obtain ⟨R, hR⟩ : ∃ R, R = sumP D W s t f n := ⟨_, rfl⟩
      have HS := Sum_any f a n c D W s t w3 HE3.out
      rw [show sumR f n D W s t = R by unfold sumR; rw [if_pos (hC.symm.trans h0), hR], ← hC, h0] at HS
      replace HS := Lib.hid HS
      have HCC : Hid (chk f n D W = 0) := Lib.hid (hC.symm.trans h0)
      have HRS : Hid (∀ V q c', EntsIn V q n f → Calls Try.prog 16 #[.slice q n c', .int .i64 D, .int .i64 W, .agg #[.int .i64 s, .int .i64 t]] V fun e w' => e = .returned (.agg #[.int .i64 R.1, .int .i64 R.2.1, .int .i64 R.2.2]) ∧ Below V.heap.size V w') := Lib.hid (fun V q c' h => by rw [hR]; exact rSum_any f q n c' D W s t V h hn hr hL)
      have HRW : Hid (∀ V q c', EntsIn V q n f → Calls Try.prog 14 #[.slice q n c', .int .i64 D, .int .i64 W] V fun e w' => ∃ (p' : Option Addr) (c' : Nat), e = .returned (.slice p' (monsP f n).length c') ∧ HrsIn w' p' (monsP f n).length (fun j => (stt D W f n ((monsP f n).getD j 0)).2) ∧ Below V.heap.size V w') := Lib.hid (fun V q c' h => rWeeks_any f q n c' D W V h hn hr hL)
      have HRT := Lib.hid hr
      have HLEN : Hid ((monsP f n).length ≤ n) := Lib.hid (monsP_len f n)
      replace h0 : chk f n D W = 0 := hC.symm.trans h0
      clear hR hC hn hr hL
      obtain ⟨R0, R1, R2⟩ := R
      simp only at HS HRS
      have HWKS : Hid (∀ V, EntsIn V a n f → Calls Try.prog 11 #[.slice a n c, .agg #[.int .i64 D, .int .i64 W]] V (WeeksR f n D W V)) := Lib.hid (fun V hV => Weeks_any f a n c D W V hV)
      have HOF : Hid (∀ (C : Prop) (W0 V : World), EntsIn W0 a n f → (C ∧ Below W0.heap.size W0 V) → Calls Try.prog 13 #[.slice a n c] V fun e w' => ∃ (q : Option Addr) (c' : Nat), e = .returned (.slice q n c') ∧ EntsIn w' q n f ∧ (∀ a, q = some a → V.heap.size ≤ a.block) ∧ Below V.heap.size V w') := Lib.hid (fun _ W0 V h k => of_any f a n c V (h.below k.2) (by omega))
      have HCK : Hid (∀ V q c', EntsIn V q n f → Calls Try.prog 12 #[.slice q n c', .int .i64 D, .int .i64 W] V fun e w' => e = .returned (.int .i64 0) ∧ Below V.heap.size V w') := Lib.hid (fun V q c' h => by have := rCheck_any f q n c' D W V h; rwa [HCC.out] at this)
      go_wp2_with fail
      refine (HS.out).mono ?_
      rintro e w4 ⟨rfl, hb4⟩
      replace y0 := stay hb4 y0
      replace y1 := stay hb4 y1
      replace y2 := stay hb4 y2
      replace y3 := stay hb4 y3
      have HE4 := Lib.hid (HE3.out.below hb4)
      have HB4 := Lib.hid (HB3.out.trans (hb4.mono (by omega)))
      have hz4 := hb4.size
      obtain ⟨V5, hV5⟩ : ∃ V5, V5 = w4.alloc (.cells #[.int .i64 R0, .int .i64 R1, .int .i64 R2] 30) := ⟨_, rfl⟩
      have hx5 : HrBox V5 w4.heap.size (R0, R1, R2) := by rw [hV5]; exact HrBox.new w4 (R0, R1, R2) _
      have hb5 : Below w4.heap.size w4 V5 := by rw [hV5]; exact (Below.refl _ _).alloc (Nat.le_refl _) _
      have k0 : w.heap.size < w4.heap.size := by omega
      have k1 : w.heap.size + 1 < w4.heap.size := by omega
      have hz5 : V5.heap.size = w4.heap.size + 1 := by rw [hV5]; simp
      have u0 := stay hb5 y0
      have u1 := stay hb5 y1
      have u2 := stay hb5 y2
      have u3 := stay hb5 y3
      have HU := Lib.hid (And.intro u0 (And.intro u1 (And.intro u2 u3)))
      have HE5 := Lib.hid (HE4.out.below hb5)
      have HB5 := Lib.hid (HB4.out.trans (hb5.mono (by omega)))
      have HX5 := Lib.hid hx5
      have HW5 := Lib.hid (HWKS.out V5 HE5.out)
      clear HS HE3 HB3 hb4 HE4 HB4 hb5 u0 u1 u2 u3 hx5 HWKS
      go_wp2_with fail
      rw [← hV5]
      obtain ⟨g, hg⟩ : ∃ g, g = w4.heap.size := ⟨_, rfl⟩
      rw [← hg] at HX5 hz5 ⊢
      have hgz : w.heap.size + 1 < g := by omega
      clear hV5 y0 y1 y2 y3 k0 k1 hg hz4
      refine (HW5.out).mono ?_
      rintro e w6 ⟨E, pe, ce, rfl, hok, hno, hbase, hb6⟩
      have HE6 := Lib.hid (HE5.out.below hb6)
      have HB6 := Lib.hid (HB5.out.trans (hb6.mono HB5.out.size))
      have HX6 := Lib.hid (HX5.out.below hb6)
      obtain ⟨u0, u1, u2, u3⟩ := HU.out
      replace u0 := stay hb6 u0
      replace u1 := stay hb6 u1
      replace u2 := stay hb6 u2
      replace u3 := stay hb6 u3
      have HZ6 : Hid (V5.heap.size ≤ w6.heap.size) := Lib.hid hb6.size
      clear HW5 HE5 HB5 HX5 HU

      obtain ⟨o1, o2, o3, o4⟩ := hok h0
      obtain rfl : E = monsP f n := ss_mons HRT.out o2 o3
      have HLE := HLEN.out
      have HP6 : Hid (HrsIn w6 pe (monsP f n).length (fun j => (stt D W f n ((monsP f n).getD j 0)).2)) := Lib.hid o4
      obtain ⟨gG, hgG⟩ : ∃ gG : Nat → Hr, gG = fun j => (stt D W f n ((monsP f n).getD j 0)).2 := ⟨_, rfl⟩
      rw [← hgG] at HP6 HRW
      generalize monsP f n = L at *
      clear hok hno hbase hb6 o1 o2 o3 o4 hgG HLEN
      have KP : Hid (∀ w', Below w6.heap.size w6 w' → (w'.cell? ⟨w.heap.size, 0, none⟩ = some (.int .i64 D) ∧ w'.cell? ⟨w.heap.size, 1, none⟩ = some (.int .i64 W)) ∧ Below w6.heap.size w6 w') := Lib.hid (fun w' h => ⟨⟨stay h u0, stay h u1⟩, h⟩)
      have KU : Hid (∀ w', Below w6.heap.size w6 w' → w'.cell? ⟨w.heap.size, 0, none⟩ = some (.int .i64 D) ∧ w'.cell? ⟨w.heap.size, 1, none⟩ = some (.int .i64 W) ∧ w'.cell? ⟨w.heap.size + 1, 0, none⟩ = some (.int .i64 s) ∧ w'.cell? ⟨w.heap.size + 1, 1, none⟩ = some (.int .i64 t)) := Lib.hid (fun w' h => ⟨stay h u0, stay h u1, stay h u2, stay h u3⟩)
      clear u0 u1 u2 u3
      go_wp2
      go_region_held3 (fun w' => (w'.cell? ⟨w.heap.size, 0, none⟩ = some (.int .i64 D) ∧ w'.cell? ⟨w.heap.size, 1, none⟩ = some (.int .i64 W)) ∧ Below w6.heap.size w6 w') (first | exact KP.out _ ss_drew | exact KP.out _ (by assumption)) (first | (go_at_call 13; refine (HOF.out _ _ _ HE6.out (by assumption)).mono ?_; rintro e wx ⟨qx, qxc, rfl, hewx, -, hbwx⟩; have hkwx := ss_call hbwx (by assumption)) | (go_at_call 12; refine (HCK.out _ _ _ (by assumption)).mono ?_; rintro e wy ⟨rfl, hbwy⟩; have hkwy := ss_call hbwy (by assumption)))
      have HX7 := Lib.hid (HX6.out.below hkwy)
      have HE7 := Lib.hid (HE6.out.below hkwy)
      have HP7 := Lib.hid (HP6.out.below hkwy)
      have HB7 := Lib.hid (HB6.out.trans (hkwy.mono HB6.out.size))
      obtain ⟨u0, u1, u2, u3⟩ := KU.out _ hkwy
      have KQ : Hid (∀ w', Below wy.heap.size wy w' → (w'.cell? ⟨w.heap.size, 0, none⟩ = some (.int .i64 D) ∧ w'.cell? ⟨w.heap.size, 1, none⟩ = some (.int .i64 W)) ∧ Below wy.heap.size wy w') := Lib.hid (fun w' h => ⟨⟨stay h u0, stay h u1⟩, h⟩)
      have KV : Hid (∀ w', Below wy.heap.size wy w' → w'.cell? ⟨w.heap.size, 0, none⟩ = some (.int .i64 D) ∧ w'.cell? ⟨w.heap.size, 1, none⟩ = some (.int .i64 W) ∧ w'.cell? ⟨w.heap.size + 1, 0, none⟩ = some (.int .i64 s) ∧ w'.cell? ⟨w.heap.size + 1, 1, none⟩ = some (.int .i64 t)) := Lib.hid (fun w' h => ⟨stay h u0, stay h u1, stay h u2, stay h u3⟩)
      clear u0 u1 u2 u3 KU KP HX6 HE6 HP6 HB6 hkwy hbwy HCK
      go_wp2
      go_region_held3 (fun w' => (w'.cell? ⟨w.heap.size, 0, none⟩ = some (.int .i64 D) ∧ w'.cell? ⟨w.heap.size, 1, none⟩ = some (.int .i64 W)) ∧ Below wy.heap.size wy w') (first | exact KQ.out _ ss_drew | exact KQ.out _ (by assumption)) (first | (go_at_call 13; refine (HOF.out _ _ _ HE7.out (by assumption)).mono ?_; rintro e wa ⟨qa, qac, rfl, hewa, -, hbwa⟩; have hkwa := ss_call hbwa (by assumption)) | (go_at_call 14; refine (HRW.out _ _ _ (by assumption)).mono ?_; rintro e wb ⟨pr, cr, rfl, hrr, hbwb⟩; have hkwb := ss_call hbwb (by assumption)))
      obtain ⟨⟨x0, x1, x2⟩, -⟩ := HX7.out.below hkwb
      have HE8 := Lib.hid (HE7.out.below hkwb)
      have HP8 := Lib.hid (HP7.out.below hkwb)
      have HR8 := Lib.hid hrr
      have HB8 := Lib.hid (HB7.out.trans (hkwb.mono HB7.out.size))
      obtain ⟨u0, u1, u2, u3⟩ := KV.out _ hkwb
      have KR : Hid (∀ w', Below wb.heap.size wb w' → (w'.cell? ⟨w.heap.size, 0, none⟩ = some (.int .i64 D) ∧ w'.cell? ⟨w.heap.size, 1, none⟩ = some (.int .i64 W) ∧ w'.cell? ⟨w.heap.size + 1, 0, none⟩ = some (.int .i64 s) ∧ w'.cell? ⟨w.heap.size + 1, 1, none⟩ = some (.int .i64 t) ∧ w'.cell? ⟨g, 0, none⟩ = some (.int .i64 R0) ∧ w'.cell? ⟨g, 1, none⟩ = some (.int .i64 R1) ∧ w'.cell? ⟨g, 2, none⟩ = some (.int .i64 R2)) ∧ Below wb.heap.size wb w') := Lib.hid (fun w' h => ⟨⟨stay h u0, stay h u1, stay h u2, stay h u3, stay h x0, stay h x1, stay h x2⟩, h⟩)
      have eL : ((L.length : Int) != (L.length : Int)) = false := by simp
      have HHR : Hid (∀ V, Calls Try.prog 15 #[.agg #[.int .i64 R0, .int .i64 R1, .int .i64 R2]] V fun e w' => e = .returned (.agg #[.int .i64 R0, .int .i64 R1, .int .i64 R2]) ∧ Below V.heap.size V w') := Lib.hid (fun V => hours_any (R0, R1, R2) V)
      clear u0 u1 u2 u3 x0 x1 x2 KV KQ HX7 HE7 HP7 HB7 hkwb hbwb hrr HRW
      go_wp2
      go_region_held3 (fun w' => (w'.cell? ⟨w.heap.size, 0, none⟩ = some (.int .i64 D) ∧ w'.cell? ⟨w.heap.size, 1, none⟩ = some (.int .i64 W) ∧ w'.cell? ⟨w.heap.size + 1, 0, none⟩ = some (.int .i64 s) ∧ w'.cell? ⟨w.heap.size + 1, 1, none⟩ = some (.int .i64 t) ∧ w'.cell? ⟨g, 0, none⟩ = some (.int .i64 R0) ∧ w'.cell? ⟨g, 1, none⟩ = some (.int .i64 R1) ∧ w'.cell? ⟨g, 2, none⟩ = some (.int .i64 R2)) ∧ Below wb.heap.size wb w') (first | exact KR.out _ ss_drew | exact KR.out _ (by assumption)) (first | (go_at_call 15; refine (HHR.out _).mono ?_; rintro e wc ⟨rfl, hbwc⟩; have hkwc := ss_call hbwc (by assumption)) | (go_at_call 13; refine (HOF.out _ _ _ HE8.out (by assumption)).mono ?_; rintro e wd ⟨qd, qdc, rfl, hewd, -, hbwd⟩; have hkwd := ss_call hbwd (by assumption)) | (go_at_call 16; refine (HRS.out _ _ _ (by assumption)).mono ?_; rintro e we ⟨rfl, hbwe⟩; have hkwe := ss_call hbwe (by assumption)))
      have HP9 := Lib.hid (HP8.out.below hkwe)
      have HR9 := Lib.hid (HR8.out.below hkwe)
      have HB9 := Lib.hid (HB8.out.trans (hkwe.mono HB8.out.size))
      clear KR HE8 HP8 HR8 HB8 hkwe hbwe HHR HRS HOF
      go_wp2
      go_loopw [12] (fun iv wr => ∃ j : Nat, j ≤ L.length ∧ iv = .int .i64 j ∧ Hid (Below we.heap.size we wr)) (fun iv _ => L.length - (RowKit.intOf iv).toNat)
      case atStart => exact ⟨0, by omega, rfl, Lib.hid (Below.refl _ _)⟩
      case round =>
        obtain ⟨j, hj, rfl, HBr⟩ := hrel
        by_cases hlt : j < L.length
        · have hlI : (j : Int) < (L.length : Int) := by omega
          have hj4 : (j : Int) < 4096 := by omega
          rcases HP9.out with h | ⟨bp, op, rfl, hcp⟩
          · omega
          rcases HR9.out with h | ⟨br, or, rfl, hcr⟩
          · omega
          obtain ⟨x0, x1, x2⟩ := hcp j hlt
          obtain ⟨v0, v1, v2⟩ := hcr j hlt
          have HHG : Hid (∀ V, Calls Try.prog 15 #[.agg #[.int .i64 (gG j).1, .int .i64 (gG j).2.1, .int .i64 (gG j).2.2]] V fun e w' => e = .returned (.agg #[.int .i64 (gG j).1, .int .i64 (gG j).2.1, .int .i64 (gG j).2.2]) ∧ Below V.heap.size V w') := Lib.hid (fun V => hours_any (gG j) V)
          generalize gG j = G at *
          obtain ⟨G0, G1, G2⟩ := G
          simp only at *
          replace x0 := stay HBr.out x0
          replace x1 := stay HBr.out x1
          replace x2 := stay HBr.out x2
          replace v0 := stay HBr.out v0
          replace v1 := stay HBr.out v1
          replace v2 := stay HBr.out v2
          have KS : Hid (∀ w', Below wr.heap.size wr w' → (w'.cell? ⟨bp, op + j * 3, none⟩ = some (.int .i64 G0) ∧ w'.cell? ⟨bp, op + j * 3 + 1, none⟩ = some (.int .i64 G1) ∧ w'.cell? ⟨bp, op + j * 3 + 2, none⟩ = some (.int .i64 G2) ∧ w'.cell? ⟨br, or + j * 3, none⟩ = some (.int .i64 G0) ∧ w'.cell? ⟨br, or + j * 3 + 1, none⟩ = some (.int .i64 G1) ∧ w'.cell? ⟨br, or + j * 3 + 2, none⟩ = some (.int .i64 G2)) ∧ Below wr.heap.size wr w') := Lib.hid (fun w' h => ⟨⟨stay h x0, stay h x1, stay h x2, stay h v0, stay h v1, stay h v2⟩, h⟩)
          clear x0 x1 x2 v0 v1 v2 hcp hcr HP9 HR9
          go_wp2
          go_region_held3 (fun w' => (w'.cell? ⟨bp, op + j * 3, none⟩ = some (.int .i64 G0) ∧ w'.cell? ⟨bp, op + j * 3 + 1, none⟩ = some (.int .i64 G1) ∧ w'.cell? ⟨bp, op + j * 3 + 2, none⟩ = some (.int .i64 G2) ∧ w'.cell? ⟨br, or + j * 3, none⟩ = some (.int .i64 G0) ∧ w'.cell? ⟨br, or + j * 3 + 1, none⟩ = some (.int .i64 G1) ∧ w'.cell? ⟨br, or + j * 3 + 2, none⟩ = some (.int .i64 G2)) ∧ Below wr.heap.size wr w') (first | exact KS.out _ ss_drew | exact KS.out _ (by assumption)) (first | (go_at_call 15; refine (HHG.out _).mono ?_; rintro e wf ⟨rfl, hbwf⟩; have hkwf := ss_call hbwf (by assumption)))
          have HBF : Hid (Below we.heap.size we wf) := Lib.hid (HBr.out.trans (hkwf.mono HBr.out.size))
          go_wp2
          exact ⟨⟨j + 1, by omega, by go_num, HBF⟩, by simp [RowKit.intOf]; omega⟩
        · obtain rfl : j = L.length := by omega
          have HF : Hid (Below w.heap.size w wr) := Lib.hid (HB9.out.trans (HBr.out.mono HB9.out.size))
          go_wp2
          go_ret
          exact ⟨rfl, HF.out⟩

end Go.Proofs.Ytlfflnfodnegnaa
