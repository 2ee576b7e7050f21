/-
  What is proved: the walk of the statement SheetWorked: the call returns true. Conditions: none beyond what came in.
-/
import Derived.Test.YtlfflnfodnegnaaSkJ
import Derived.Test.YtlfflnfodnegnaaFrameK
namespace Go.Proofs.Ytlfflnfodnegnaa
open Go Go.RowKit Go.Proofs
set_option linter.unusedVariables false

set_option maxHeartbeats 4000000 in
set_option maxRecDepth 100000 in
theorem walkSheetWorked (a : Option Addr) (n c : Nat) (f : Nat → En) (D W s t : Int) (w : World) (hA : EntsArg w a n c f) (D64 : in64 D) (W64 : in64 W) (s64 : in64 s) (t64 : in64 t) :
    Calls Try.prog 4 #[.slice a n c, .agg #[.int .i64 D, .int .i64 W], .agg #[.int .i64 s, .int .i64 t]] w fun e w' => e = .returned (.bool true) ∧ Below w.heap.size w w' := by
  obtain ⟨hE, -, -⟩ := hA
  obtain ⟨W2, hW2⟩ : ∃ W2, W2 = (w.alloc (.cells #[.int .i64 D, .int .i64 W] 24)).alloc (.cells #[.int .i64 s, .int .i64 t] 27) := ⟨_, rfl⟩
  have hza : (w.alloc (.cells #[.int .i64 D, .int .i64 W] 24)).heap.size = w.heap.size + 1 := by simp
  have hz2 : W2.heap.size = w.heap.size + 1 + 1 := by rw [hW2]; simp
  have hb0 : Below w.heap.size w W2 := by rw [hW2]; exact ((Below.refl w.heap.size w).alloc (Nat.le_refl _) _).alloc (by simp) _
  have c0 : W2.cell? ⟨w.heap.size, 0, none⟩ = some (.int .i64 D) := by rw [hW2, World.cell?_alloc_lt _ _ _ (by rw [hza]; show w.heap.size < _; omega), new_at]; rfl
  have c1 : W2.cell? ⟨w.heap.size, 1, none⟩ = some (.int .i64 W) := by rw [hW2, World.cell?_alloc_lt _ _ _ (by rw [hza]; show w.heap.size < _; omega), new_at]; rfl
  have c2 : W2.cell? ⟨w.heap.size + 1, 0, none⟩ = some (.int .i64 s) := by rw [hW2, ← hza, new_at]; rfl
  have c3 : W2.cell? ⟨w.heap.size + 1, 1, none⟩ = some (.int .i64 t) := by rw [hW2, ← hza, new_at]; rfl
  have HA := Lib.hid (awake_any W2)
  have HE := Lib.hid hE
  clear hE hza
  go_enter Try.func4, Try.ntmps4
  go_wp2_with fail
  rw [← hW2]
  clear hW2
  refine (HA.out).mono ?_
  rintro e w3 ⟨rfl, hb3⟩
  have y0 := stay hb3 c0
  have y1 := stay hb3 c1
  have y2 := stay hb3 c2
  have y3 := stay hb3 c3
  have hbw := hb0.trans (hb3.mono (by omega))
  have hz3 := hb3.size
  clear hb3 hb0 c0 c1 c2 c3 HA
  by_cases h300 : 300 < n
  · have hI : (300 : Int) < (n : Int) := by omega
    go_wp2
    go_ret
    exact ⟨rfl, hbw⟩
  · have hI : ¬ (300 : Int) < (n : Int) := by omega
    have hE3 := HE.out.below hbw
    have HS := Sum_any f a n c D W s t w3 hE3
    obtain ⟨C, hC⟩ : ∃ C, C = chk f n D W := ⟨_, rfl⟩
    obtain ⟨R, hR⟩ : ∃ R, R = sumR f n D W s t := ⟨_, rfl⟩
    rw [← hR, ← hC] at HS
    replace HS := Lib.hid HS
    have HE3 := Lib.hid hE3
    clear hE3 HE
    go_wp2_with fail
    refine (HS.out).mono ?_
    rintro e w4 ⟨rfl, hb4⟩
    replace y2 := stay hb4 y2
    replace y3 := stay hb4 y3
    have HE4 := Lib.hid (HE3.out.below hb4)
    have hbw4 := hbw.trans (hb4.mono (by omega))
    have k1 : w.heap.size + 1 < w4.heap.size := by have := hb4.size; omega
    clear HS HE3 y0 y1 hb4 hbw hz3
    by_cases h0 : C = 0
    · obtain ⟨hn, hr, hL⟩ := chk_ok.1 (hC.symm.trans h0)
      have hRs : R = sumP D W s t f n := by rw [hR]; unfold sumR; rw [if_pos (hC.symm.trans h0)]
      obtain ⟨r1, r2⟩ := sum_worked hr hL s t n (Nat.le_refl _)
      have r3 := sumP_bd hr hL s t n (Nat.le_refl _)
      rw [← hRs] at r1 r2 r3
      obtain ⟨W5, hW5⟩ : ∃ W5, W5 = w4.alloc (.cells #[.int .i64 R.1, .int .i64 R.2.1, .int .i64 R.2.2] 30) := ⟨_, rfl⟩
      have hx5 : HrBox W5 w4.heap.size R := by rw [hW5]; exact HrBox.new w4 R _
      have hb5 : Below w4.heap.size w4 W5 := by rw [hW5]; exact (Below.refl _ _).alloc (Nat.le_refl _) _
      have HRT := Lib.hid hr
      have HR12 := Lib.hid (And.intro r1 r2)
      have hRb : (0 ≤ R.1 ∧ R.1 ≤ 500000) ∧ (0 ≤ R.2.1 ∧ R.2.1 ≤ 500000) := by omega
      rw [h0]
      clear hC hR hRs r1 r2 r3 hr
      obtain ⟨R0, R1, R2⟩ := R
      obtain ⟨⟨x0, x1, x2⟩, -⟩ := hx5
      obtain ⟨⟨p0, p1⟩, p2, p3⟩ := hRb
      replace y2 := stay hb5 y2
      replace y3 := stay hb5 y3
      have HE5 := Lib.hid (HE4.out.below hb5)
      have HB5 := Lib.hid (hbw4.trans (hb5.mono (by omega)))
      have hzz : W5.heap.size = w4.heap.size + 1 := by rw [hW5]; simp
      obtain ⟨g, hg⟩ : ∃ g, g = w4.heap.size := ⟨_, rfl⟩
      simp only at *
      go_wp2
      rw [← hW5]
      rw [← hg] at x0 x1 x2 hzz k1 ⊢
      clear hW5 hb5 hg hbw4 HE4
      go_loopw [11, 9, 10] (fun iv mv nv wr => ∃ k : Nat, k ≤ n ∧ iv = .int .i64 k ∧ mv = .int .i64 (wrk s t f k) ∧ nv = .int .i64 (ngt s t f k) ∧ Hid (∀ b : Nat, wr.heap[b]? = W5.heap[b]?) ∧ Hid (Below w.heap.size w wr)) (fun iv _ _ _ => n - (RowKit.intOf iv).toNat)
      case atStart => exact ⟨0, by omega, rfl, rfl, rfl, Lib.hid (fun _ => rfl), HB5⟩
      case round =>
        obtain ⟨k, hk, rfl, rfl, rfl, HH, HB⟩ := hrel
        have sm : ∀ {x j v}, W5.cell? ⟨x, j, none⟩ = some v → wr.cell? ⟨x, j, none⟩ = some v := fun {x j v} h => (World.cell?_of_block (w := W5) (a := ⟨x, j, none⟩) (HH.out x)).trans h
        have hn4 : n ≤ 300 := by omega
        by_cases hlt : k < n
        · have hlI : (k : Int) < (n : Int) := by omega
          have hk4 : (k : Int) < 300 := by omega
          rcases HE5.out with h | ⟨b, o, rfl, hc⟩
          · omega
          obtain ⟨xa, xb, xc⟩ := hc k hlt
          replace xa := sm xa
          replace xb := sm xb
          replace xc := sm xc
          have u2 := sm y2
          have u3 := sm y3
          obtain ⟨hin, m0, m1, n0, n1⟩ := HRT.out.1 k hlt
          obtain ⟨⟨a0, a1⟩, b0, b1⟩ := wrk_bd HRT.out s t k (by omega)
          have hw : wrk s t f (k + 1) = if s ≤ (f k).1 ∧ (f k).1 < t then wrk s t f k + (f k).2.1 else wrk s t f k := rfl
          have hg : ngt s t f (k + 1) = if s ≤ (f k).1 ∧ (f k).1 < t then ngt s t f k + (f k).2.2 else ngt s t f k := rfl
          have HWN : Hid (wrk s t f (k + 1) = if s ≤ (f k).1 ∧ (f k).1 < t then wrk s t f k + (f k).2.1 else wrk s t f k) := Lib.hid hw
          have HGN : Hid (ngt s t f (k + 1) = if s ≤ (f k).1 ∧ (f k).1 < t then ngt s t f k + (f k).2.2 else ngt s t f k) := Lib.hid hg
          clear hw hg hc sm hin
          generalize hgm : wrk s t f k = mv at *
          generalize hgn : ngt s t f k = nv at *
          generalize f k = e at *
          obtain ⟨d, mi, ni⟩ := e
          simp only at *
          clear hgm hgn
          have hcs : (s ≤ d ∧ d < t) ∨ (s ≤ d ∧ ¬ d < t) ∨ ¬ s ≤ d := by omega
          rcases hcs with ⟨g1, g2⟩ | ⟨g1, g2⟩ | g1
          · have e1 : decide (s ≤ d) = true := decide_eq_true g1
            have e2 : decide (d < t) = true := decide_eq_true g2
            have hw := HWN.out
            have hg := HGN.out
            rw [if_pos ⟨g1, g2⟩] at hw hg
            have HW := Lib.hid hw
            have HG := Lib.hid hg
            clear hw hg HWN HGN
            go_wp2
            go_quiet (fail)
            go_wp2
            exact ⟨⟨k + 1, by omega, by go_num, by rw [HW.out], by rw [HG.out], Lib.hid (fun b => HH.out b), Lib.hid (below_drewN HB.out _)⟩, by simp [RowKit.intOf]; omega⟩
          · have e1 : decide (s ≤ d) = true := decide_eq_true g1
            have e2 : decide (d < t) = false := decide_eq_false g2
            have hw := HWN.out
            have hg := HGN.out
            rw [if_neg (fun h => g2 h.2)] at hw hg
            have HW := Lib.hid hw
            have HG := Lib.hid hg
            clear hw hg HWN HGN
            go_wp2
            go_quiet (fail)
            go_wp2
            exact ⟨⟨k + 1, by omega, by go_num, by rw [HW.out], by rw [HG.out], Lib.hid (fun b => HH.out b), Lib.hid (below_drewN HB.out _)⟩, by simp [RowKit.intOf]; omega⟩
          · have e1 : decide (s ≤ d) = false := decide_eq_false g1
            have hw := HWN.out
            have hg := HGN.out
            rw [if_neg (fun h => g1 h.1)] at hw hg
            have HW := Lib.hid hw
            have HG := Lib.hid hg
            clear hw hg HWN HGN
            go_wp2
            go_quiet (fail)
            go_wp2
            exact ⟨⟨k + 1, by omega, by go_num, by rw [HW.out], by rw [HG.out], Lib.hid (fun b => HH.out b), Lib.hid (below_drewN HB.out _)⟩, by simp [RowKit.intOf]; omega⟩
        · obtain rfl : k = n := by omega
          obtain ⟨r1, r2⟩ := HR12.out
          rw [← r1, ← r2]
          have v0 := sm x0
          have v1 := sm x1
          have v2 := sm x2
          clear x0 x1 x2 r1 r2 sm
          go_wp2
          go_ret
          exact ⟨rfl, HB.out⟩
    · have hRs : R = (0, 0, 0) := by rw [hR]; unfold sumR; rw [if_neg (by rw [← hC]; exact h0)]
      subst hRs
      have e0 : (C != 0) = true := by simpa using h0
      have h0' : ¬ C = 0 := h0
      clear hC hR
      simp only at *
      go_wp2
      go_ret
      exact ⟨rfl, hbw4.alloc (by have := hbw4.size; omega) _⟩

end Go.Proofs.Ytlfflnfodnegnaa
