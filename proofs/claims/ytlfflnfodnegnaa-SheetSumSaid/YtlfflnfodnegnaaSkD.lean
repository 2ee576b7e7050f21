/-
  What is proved: how entries lie in memory, and the contract of sheet.check. Conditions: the entries lie in memory as the contract says.
-/
import Derived.Test.YtlfflnfodnegnaaSkC
namespace Go.Proofs.Ytlfflnfodnegnaa
open Go Go.RowKit Go.Proofs
set_option linter.unusedVariables false

theorem below_drewN {B : Nat} {a w : World} (h : Below B a w) (n : Nat) : Below B a (w.drewN n) := ⟨h.os, h.tape, h.output, h.size, h.block⟩
/-- Entries that lie in memory. -/
def EntsIn (w : World) (p : Option Addr) (n : Nat) (f : Nat → En) : Prop := n = 0 ∨ ∃ b o, p = some ⟨b, o, none⟩ ∧ ∀ j, j < n → w.cell? ⟨b, o + j * 3, none⟩ = some (.int .i64 (f j).1) ∧ w.cell? ⟨b, o + j * 3 + 1, none⟩ = some (.int .i64 (f j).2.1) ∧ w.cell? ⟨b, o + j * 3 + 2, none⟩ = some (.int .i64 (f j).2.2)
theorem EntsIn.below {w w' : World} {p : Option Addr} {n : Nat} {f : Nat → En} (h : EntsIn w p n f) (hb : Below w.heap.size w w') : EntsIn w' p n f := by
  rcases h with h | ⟨b, o, rfl, hc⟩
  · exact .inl h
  · exact .inr ⟨b, o, rfl, fun j hj => ⟨stay hb (hc j hj).1, stay hb (hc j hj).2.1, stay hb (hc j hj).2.2⟩⟩
theorem errE_in {f : Nat → En} {k : Nat} (h : inB (f k).1 = false) : errE f k = 15 := by unfold errE; rw [if_pos h]
theorem errE_up {f : Nat → En} {k : Nat} (h : inB (f (k + 1)).1 = true) (h1 : (f (k + 1)).1 ≤ (f k).1) : errE f (k + 1) = 8 := by
  unfold errE; rw [if_neg (by rw [h]; simp), if_pos]; exact ⟨by omega, by rw [Nat.add_sub_cancel]; exact h1⟩
theorem errE_rest {f : Nat → En} {k : Nat} (h : inB (f k).1 = true) (h1 : 0 < k → (f (k - 1)).1 < (f k).1) (h2 : (f k).2.1 < 0 ∨ 1440 < (f k).2.1 ∨ (f k).2.2 < 0 ∨ (f k).2.1 < (f k).2.2) : errE f k = 2 := by
  unfold errE; rw [if_neg (by rw [h]; simp), if_neg (by rintro ⟨a, b⟩; have := h1 a; omega)]
  split
  · rfl
  · rw [if_pos (by omega)]
theorem errE_fine {f : Nat → En} {k : Nat} (h : inB (f k).1 = true) (h1 : 0 < k → (f (k - 1)).1 < (f k).1) (h2 : 0 ≤ (f k).2.1) (h3 : (f k).2.1 ≤ 1440) (h4 : 0 ≤ (f k).2.2) (h5 : (f k).2.2 ≤ (f k).2.1) : errE f k = 0 := errE_ok.2 ⟨⟨h, h2, h3, h4, h5⟩, h1⟩
theorem errP_next {f : Nat → En} {k : Nat} (h : errP f k = 0) (h1 : errE f k = 0) : errP f (k + 1) = 0 := by unfold errP; rw [if_pos h]; exact h1

set_option maxHeartbeats 4000000 in
set_option maxRecDepth 100000 in
theorem check_any (f : Nat → En) (p : Option Addr) (n c : Nat) (D W : Int) (w : World) (h : EntsIn w p n f) :
    Calls Try.prog 17 #[.slice p n c, .agg #[.int .i64 D, .int .i64 W]] w fun e w' => e = .returned (.int .i64 (chk f n D W)) ∧ Below w.heap.size w w' := by
  obtain ⟨R, hR⟩ : ∃ R, R = chk f n D W := ⟨_, rfl⟩
  rw [← hR]
  obtain ⟨W1, hW1⟩ : ∃ W1, W1 = w.alloc (.cells #[.int .i64 D, .int .i64 W] 24) := ⟨_, rfl⟩
  have hb0 : Below w.heap.size w W1 := by rw [hW1]; exact (Below.refl w.heap.size w).alloc (Nat.le_refl _) _
  have hz : W1.heap.size = w.heap.size + 1 := by rw [hW1]; simp
  have x0 : W1.cell? ⟨w.heap.size, 0, none⟩ = some (.int .i64 D) := by rw [hW1, new_at]; rfl
  have x1 : W1.cell? ⟨w.heap.size, 1, none⟩ = some (.int .i64 W) := by rw [hW1, new_at]; rfl
  have hE := Lib.hid (h.below hb0)
  clear h
  by_cases hl : 4096 < n
  · have HR : Hid (R = 5) := Lib.hid (by rw [hR]; unfold chk; rw [if_pos hl])
    have hl' : (4096 : Int) < (n : Int) := by omega
    clear hR hl
    go_enter Try.func17, Try.ntmps17
    go_wp2
    rw [← hW1]
    go_ret
    exact ⟨by rw [HR.out]; rfl, hb0⟩
  · have hl' : ¬ (4096 : Int) < (n : Int) := by omega
    have hRf : R = if errP f n = 0 then errL D W else errP f n := by rw [hR]; unfold chk; rw [if_neg hl]
    have HB : Hid (∀ k, k < n → errP f k = 0 → ∀ v, errE f k = v → v ≠ 0 → R = v) := Lib.hid (fun k hk h0 v hv hn => by
      have := errP_stop h0 hk (by rw [hv]; exact hn)
      rw [hRf, if_neg (by rw [this, hv]; exact hn), this, hv])
    have HE : Hid (errP f n = 0 → R = errL D W) := Lib.hid (fun h => by rw [hRf, if_pos h])
    clear hR hRf hl
    go_enter Try.func17, Try.ntmps17
    go_wp2
    rw [← hW1]
    clear hW1
    go_loopw [12] (fun iv wr => ∃ k : Nat, k ≤ n ∧ iv = .int .i64 k ∧ Hid (errP f k = 0) ∧ Hid (Below W1.heap.size W1 wr)) (fun iv wr => n - (RowKit.intOf iv).toNat)
    case atStart => exact ⟨0, by omega, rfl, Lib.hid rfl, Lib.hid (Below.refl _ _)⟩
    case round =>
      obtain ⟨k, hk, rfl, H0, hbr⟩ := hrel
      have hbz := hbr.out.size
      have k0 : w.heap.size < wr.heap.size := by omega
      have y0 := stay hbr.out x0
      have y1 := stay hbr.out x1
      have hbw : Hid (Below w.heap.size w wr) := Lib.hid (hb0.trans (hbr.out.mono (by omega)))
      by_cases hlt : k < n
      · have hlI : (k : Int) < (n : Int) := by omega
        rcases hE.out with h | ⟨b, o, rfl, hc⟩
        · omega
        obtain ⟨xa, xb, xc⟩ := hc k hlt
        replace xa := stay hbr.out xa
        replace xb := stay hbr.out xb
        replace xc := stay hbr.out xc
        have kb : b < wr.heap.size := World.block_lt_of_cell? _ _ xa
        have HN : ∀ u : World, Below w.heap.size w wr → Below w.heap.size w (wr.alloc (.cells #[.int .i64 (f k).1, .int .i64 (f k).2.1, .int .i64 (f k).2.2] 46)) := fun _ h => h.alloc (by omega) _
        have HM : Hid (Below W1.heap.size W1 (wr.alloc (.cells #[.int .i64 (f k).1, .int .i64 (f k).2.1, .int .i64 (f k).2.2] 46))) := Lib.hid (hbr.out.alloc hbz _)
        have HD := Lib.hid (HN wr hbw.out)
        clear HN hbz hbw
        cases hin : inB (f k).1 with
        | false =>
          have HR := Lib.hid (HB.out k hlt H0.out 15 (errE_in hin) (by decide))
          have HW := Lib.hid (wk_no _ hin)
          generalize (f k) = e at *
          obtain ⟨d, mi, ni⟩ := e
          simp only at *
          clear hc HB HE H0 hin hE HM hbr
          go_wp2_with fail
          refine (HW.out _).mono ?_
          rintro e w' ⟨rfl, rfl⟩
          go_wp2
          go_ret
          exact ⟨by rw [HR.out]; rfl, HD.out⟩
        | true =>
          have HW := fun V => wk_at _ hin V
          cases k with
          | zero =>
            have e1 : decide ((0 : Int) < ((0 : Nat) : Int)) = false := by decide
            have hcs : (f 0).2.1 < 0 ∨ (0 ≤ (f 0).2.1 ∧ 1440 < (f 0).2.1) ∨ (0 ≤ (f 0).2.1 ∧ (f 0).2.1 ≤ 1440 ∧ (f 0).2.2 < 0) ∨ (0 ≤ (f 0).2.1 ∧ (f 0).2.1 ≤ 1440 ∧ 0 ≤ (f 0).2.2 ∧ (f 0).2.1 < (f 0).2.2) ∨ (0 ≤ (f 0).2.1 ∧ (f 0).2.1 ≤ 1440 ∧ 0 ≤ (f 0).2.2 ∧ (f 0).2.2 ≤ (f 0).2.1) := by omega
            rcases hcs with g1 | ⟨g1, g2⟩ | ⟨g1, g2, g3⟩ | ⟨g1, g2, g3, g4⟩ | ⟨g1, g2, g3, g4⟩
            · have HR := Lib.hid (HB.out 0 hlt H0.out 2 (errE_rest hin (fun h => absurd h (by omega)) (.inl g1)) (by decide))
              generalize (f 0) = e at *
              obtain ⟨d, mi, ni⟩ := e
              simp only [Int.natCast_zero, Nat.zero_mul, Nat.add_zero] at *
              clear hc HB HE H0 hin hE hbr
              obtain ⟨m, m7, -, HX⟩ := HW (wr.alloc (.cells #[.int .i64 d, .int .i64 mi, .int .i64 ni] 46))
              have m0 : ¬ (m : Int) < 0 := by omega
              replace HX := Lib.hid HX
              clear HW
              go_wp2_with fail
              refine (HX.out).mono ?_
              rintro e w' ⟨rfl, rfl⟩
              go_wp2
              go_quiet (fail)
              obtain ⟨V, hV⟩ : ∃ V, V = (wr.alloc (.cells #[.int .i64 d, .int .i64 mi, .int .i64 ni] 46)).drewN nq := ⟨_, rfl⟩
              have v0 : V.cell? ⟨wr.heap.size, 0, none⟩ = some (.int .i64 d) := by rw [hV]; exact new_at wr _ _ 0
              have v1 : V.cell? ⟨wr.heap.size, 1, none⟩ = some (.int .i64 mi) := by rw [hV]; exact new_at wr _ _ 1
              have v2 : V.cell? ⟨wr.heap.size, 2, none⟩ = some (.int .i64 ni) := by rw [hV]; exact new_at wr _ _ 2
              have HDV : Hid (Below w.heap.size w V) := Lib.hid (by rw [hV]; exact below_drewN HD.out _)
              have HMV : Hid (Below W1.heap.size W1 V) := Lib.hid (by rw [hV]; exact below_drewN HM.out _)
              rw [← hV]
              clear hV HD HM y0 y1 xa xb xc
              go_wp2
              go_ret
              exact ⟨by rw [HR.out]; rfl, HDV.out⟩
            · have HR := Lib.hid (HB.out 0 hlt H0.out 2 (errE_rest hin (fun h => absurd h (by omega)) (.inr (.inl g2))) (by decide))
              generalize (f 0) = e at *
              obtain ⟨d, mi, ni⟩ := e
              simp only [Int.natCast_zero, Nat.zero_mul, Nat.add_zero] at *
              have n1 : ¬ mi < 0 := by omega
              clear hc HB HE H0 hin hE hbr
              obtain ⟨m, m7, -, HX⟩ := HW (wr.alloc (.cells #[.int .i64 d, .int .i64 mi, .int .i64 ni] 46))
              have m0 : ¬ (m : Int) < 0 := by omega
              replace HX := Lib.hid HX
              clear HW
              go_wp2_with fail
              refine (HX.out).mono ?_
              rintro e w' ⟨rfl, rfl⟩
              go_wp2
              go_quiet (fail)
              obtain ⟨V, hV⟩ : ∃ V, V = (wr.alloc (.cells #[.int .i64 d, .int .i64 mi, .int .i64 ni] 46)).drewN nq := ⟨_, rfl⟩
              have v0 : V.cell? ⟨wr.heap.size, 0, none⟩ = some (.int .i64 d) := by rw [hV]; exact new_at wr _ _ 0
              have v1 : V.cell? ⟨wr.heap.size, 1, none⟩ = some (.int .i64 mi) := by rw [hV]; exact new_at wr _ _ 1
              have v2 : V.cell? ⟨wr.heap.size, 2, none⟩ = some (.int .i64 ni) := by rw [hV]; exact new_at wr _ _ 2
              have HDV : Hid (Below w.heap.size w V) := Lib.hid (by rw [hV]; exact below_drewN HD.out _)
              have HMV : Hid (Below W1.heap.size W1 V) := Lib.hid (by rw [hV]; exact below_drewN HM.out _)
              rw [← hV]
              clear hV HD HM y0 y1 xa xb xc
              go_wp2
              go_ret
              exact ⟨by rw [HR.out]; rfl, HDV.out⟩
            · have HR := Lib.hid (HB.out 0 hlt H0.out 2 (errE_rest hin (fun h => absurd h (by omega)) (.inr (.inr (.inl g3)))) (by decide))
              generalize (f 0) = e at *
              obtain ⟨d, mi, ni⟩ := e
              simp only [Int.natCast_zero, Nat.zero_mul, Nat.add_zero] at *
              have n1 : ¬ mi < 0 := by omega
              have n2 : ¬ 1440 < mi := by omega
              clear hc HB HE H0 hin hE hbr
              obtain ⟨m, m7, -, HX⟩ := HW (wr.alloc (.cells #[.int .i64 d, .int .i64 mi, .int .i64 ni] 46))
              have m0 : ¬ (m : Int) < 0 := by omega
              replace HX := Lib.hid HX
              clear HW
              go_wp2_with fail
              refine (HX.out).mono ?_
              rintro e w' ⟨rfl, rfl⟩
              go_wp2
              go_quiet (fail)
              obtain ⟨V, hV⟩ : ∃ V, V = (wr.alloc (.cells #[.int .i64 d, .int .i64 mi, .int .i64 ni] 46)).drewN nq := ⟨_, rfl⟩
              have v0 : V.cell? ⟨wr.heap.size, 0, none⟩ = some (.int .i64 d) := by rw [hV]; exact new_at wr _ _ 0
              have v1 : V.cell? ⟨wr.heap.size, 1, none⟩ = some (.int .i64 mi) := by rw [hV]; exact new_at wr _ _ 1
              have v2 : V.cell? ⟨wr.heap.size, 2, none⟩ = some (.int .i64 ni) := by rw [hV]; exact new_at wr _ _ 2
              have HDV : Hid (Below w.heap.size w V) := Lib.hid (by rw [hV]; exact below_drewN HD.out _)
              have HMV : Hid (Below W1.heap.size W1 V) := Lib.hid (by rw [hV]; exact below_drewN HM.out _)
              rw [← hV]
              clear hV HD HM y0 y1 xa xb xc
              go_wp2
              go_ret
              exact ⟨by rw [HR.out]; rfl, HDV.out⟩
            · have HR := Lib.hid (HB.out 0 hlt H0.out 2 (errE_rest hin (fun h => absurd h (by omega)) (.inr (.inr (.inr g4)))) (by decide))
              generalize (f 0) = e at *
              obtain ⟨d, mi, ni⟩ := e
              simp only [Int.natCast_zero, Nat.zero_mul, Nat.add_zero] at *
              have n1 : ¬ mi < 0 := by omega
              have n2 : ¬ 1440 < mi := by omega
              have n3 : ¬ ni < 0 := by omega
              clear hc HB HE H0 hin hE hbr
              obtain ⟨m, m7, -, HX⟩ := HW (wr.alloc (.cells #[.int .i64 d, .int .i64 mi, .int .i64 ni] 46))
              have m0 : ¬ (m : Int) < 0 := by omega
              replace HX := Lib.hid HX
              clear HW
              go_wp2_with fail
              refine (HX.out).mono ?_
              rintro e w' ⟨rfl, rfl⟩
              go_wp2
              go_quiet (fail)
              obtain ⟨V, hV⟩ : ∃ V, V = (wr.alloc (.cells #[.int .i64 d, .int .i64 mi, .int .i64 ni] 46)).drewN nq := ⟨_, rfl⟩
              have v0 : V.cell? ⟨wr.heap.size, 0, none⟩ = some (.int .i64 d) := by rw [hV]; exact new_at wr _ _ 0
              have v1 : V.cell? ⟨wr.heap.size, 1, none⟩ = some (.int .i64 mi) := by rw [hV]; exact new_at wr _ _ 1
              have v2 : V.cell? ⟨wr.heap.size, 2, none⟩ = some (.int .i64 ni) := by rw [hV]; exact new_at wr _ _ 2
              have HDV : Hid (Below w.heap.size w V) := Lib.hid (by rw [hV]; exact below_drewN HD.out _)
              have HMV : Hid (Below W1.heap.size W1 V) := Lib.hid (by rw [hV]; exact below_drewN HM.out _)
              rw [← hV]
              clear hV HD HM y0 y1 xa xb xc
              go_wp2
              go_ret
              exact ⟨by rw [HR.out]; rfl, HDV.out⟩
            · have HR : Hid (errP f 1 = 0) := Lib.hid (errP_next H0.out (errE_fine hin (fun h => absurd h (by omega)) g1 g2 g3 g4))
              generalize (f 0) = e at *
              obtain ⟨d, mi, ni⟩ := e
              simp only [Int.natCast_zero, Nat.zero_mul, Nat.add_zero] at *
              have n1 : ¬ mi < 0 := by omega
              have n2 : ¬ 1440 < mi := by omega
              have n3 : ¬ ni < 0 := by omega
              have n4 : ¬ mi < ni := by omega
              clear hc HB HE H0 hin hE hbr
              obtain ⟨m, m7, -, HX⟩ := HW (wr.alloc (.cells #[.int .i64 d, .int .i64 mi, .int .i64 ni] 46))
              have m0 : ¬ (m : Int) < 0 := by omega
              replace HX := Lib.hid HX
              clear HW
              go_wp2_with fail
              refine (HX.out).mono ?_
              rintro e w' ⟨rfl, rfl⟩
              go_wp2
              go_quiet (fail)
              obtain ⟨V, hV⟩ : ∃ V, V = (wr.alloc (.cells #[.int .i64 d, .int .i64 mi, .int .i64 ni] 46)).drewN nq := ⟨_, rfl⟩
              have v0 : V.cell? ⟨wr.heap.size, 0, none⟩ = some (.int .i64 d) := by rw [hV]; exact new_at wr _ _ 0
              have v1 : V.cell? ⟨wr.heap.size, 1, none⟩ = some (.int .i64 mi) := by rw [hV]; exact new_at wr _ _ 1
              have v2 : V.cell? ⟨wr.heap.size, 2, none⟩ = some (.int .i64 ni) := by rw [hV]; exact new_at wr _ _ 2
              have HDV : Hid (Below w.heap.size w V) := Lib.hid (by rw [hV]; exact below_drewN HD.out _)
              have HMV : Hid (Below W1.heap.size W1 V) := Lib.hid (by rw [hV]; exact below_drewN HM.out _)
              rw [← hV]
              clear hV HD HM y0 y1 xa xb xc
              go_wp2
              go_roundw
              case rel => exact ⟨1, by omega, by go_num, HR, HMV⟩
              case measure => simp [RowKit.intOf]; omega
          | succ k =>
            obtain ⟨xj, -, -⟩ := hc k (by omega)
            replace xj := stay hbr.out xj
            have e1 : decide ((0 : Int) < ((k + 1 : Nat) : Int)) = true := by simp
            have i2 : ((k + 1 : Nat) : Int) - 1 = (k : Int) := by omega
            have i3 : (0 : Int) < ((k + 1 : Nat) : Int) := by omega
            have i4 : (k : Int) < (n : Int) := by omega
            rcases Int.lt_or_le (f k).1 (f (k + 1)).1 with hu | hu
            · have hM : ∃ m : Nat, m < 7 := ⟨0, by omega⟩
              have hcs : (f (k + 1)).2.1 < 0 ∨ (0 ≤ (f (k + 1)).2.1 ∧ 1440 < (f (k + 1)).2.1) ∨ (0 ≤ (f (k + 1)).2.1 ∧ (f (k + 1)).2.1 ≤ 1440 ∧ (f (k + 1)).2.2 < 0) ∨ (0 ≤ (f (k + 1)).2.1 ∧ (f (k + 1)).2.1 ≤ 1440 ∧ 0 ≤ (f (k + 1)).2.2 ∧ (f (k + 1)).2.1 < (f (k + 1)).2.2) ∨ (0 ≤ (f (k + 1)).2.1 ∧ (f (k + 1)).2.1 ≤ 1440 ∧ 0 ≤ (f (k + 1)).2.2 ∧ (f (k + 1)).2.2 ≤ (f (k + 1)).2.1) := by omega
              rcases hcs with g1 | ⟨g1, g2⟩ | ⟨g1, g2, g3⟩ | ⟨g1, g2, g3, g4⟩ | ⟨g1, g2, g3, g4⟩
              · have HR := Lib.hid (HB.out (k + 1) hlt H0.out 2 (errE_rest hin (fun _ => by rw [Nat.add_sub_cancel]; exact hu) (.inl g1)) (by decide))
                generalize (f k).1 = d' at *
                generalize (f (k + 1)) = e at *
                obtain ⟨d, mi, ni⟩ := e
                simp only at *
                have e2 : decide (d ≤ d') = false := decide_eq_false (by omega)
                clear hc HB HE H0 hin hE hbr
                obtain ⟨m, m7, -, HX⟩ := HW (wr.alloc (.cells #[.int .i64 d, .int .i64 mi, .int .i64 ni] 46))
                have m0 : ¬ (m : Int) < 0 := by omega
                replace HX := Lib.hid HX
                clear HW
                go_wp2_with fail
                refine (HX.out).mono ?_
                rintro e w' ⟨rfl, rfl⟩
                go_wp2
                go_quiet (fail)
                obtain ⟨V, hV⟩ : ∃ V, V = (wr.alloc (.cells #[.int .i64 d, .int .i64 mi, .int .i64 ni] 46)).drewN nq := ⟨_, rfl⟩
                have v0 : V.cell? ⟨wr.heap.size, 0, none⟩ = some (.int .i64 d) := by rw [hV]; exact new_at wr _ _ 0
                have v1 : V.cell? ⟨wr.heap.size, 1, none⟩ = some (.int .i64 mi) := by rw [hV]; exact new_at wr _ _ 1
                have v2 : V.cell? ⟨wr.heap.size, 2, none⟩ = some (.int .i64 ni) := by rw [hV]; exact new_at wr _ _ 2
                have HDV : Hid (Below w.heap.size w V) := Lib.hid (by rw [hV]; exact below_drewN HD.out _)
                have HMV : Hid (Below W1.heap.size W1 V) := Lib.hid (by rw [hV]; exact below_drewN HM.out _)
                rw [← hV]
                clear hV HD HM y0 y1 xa xb xc
                go_wp2
                go_ret
                exact ⟨by rw [HR.out]; rfl, HDV.out⟩
              · have HR := Lib.hid (HB.out (k + 1) hlt H0.out 2 (errE_rest hin (fun _ => by rw [Nat.add_sub_cancel]; exact hu) (.inr (.inl g2))) (by decide))
                generalize (f k).1 = d' at *
                generalize (f (k + 1)) = e at *
                obtain ⟨d, mi, ni⟩ := e
                simp only at *
                have e2 : decide (d ≤ d') = false := decide_eq_false (by omega)
                have n1 : ¬ mi < 0 := by omega
                clear hc HB HE H0 hin hE hbr
                obtain ⟨m, m7, -, HX⟩ := HW (wr.alloc (.cells #[.int .i64 d, .int .i64 mi, .int .i64 ni] 46))
                have m0 : ¬ (m : Int) < 0 := by omega
                replace HX := Lib.hid HX
                clear HW
                go_wp2_with fail
                refine (HX.out).mono ?_
                rintro e w' ⟨rfl, rfl⟩
                go_wp2
                go_quiet (fail)
                obtain ⟨V, hV⟩ : ∃ V, V = (wr.alloc (.cells #[.int .i64 d, .int .i64 mi, .int .i64 ni] 46)).drewN nq := ⟨_, rfl⟩
                have v0 : V.cell? ⟨wr.heap.size, 0, none⟩ = some (.int .i64 d) := by rw [hV]; exact new_at wr _ _ 0
                have v1 : V.cell? ⟨wr.heap.size, 1, none⟩ = some (.int .i64 mi) := by rw [hV]; exact new_at wr _ _ 1
                have v2 : V.cell? ⟨wr.heap.size, 2, none⟩ = some (.int .i64 ni) := by rw [hV]; exact new_at wr _ _ 2
                have HDV : Hid (Below w.heap.size w V) := Lib.hid (by rw [hV]; exact below_drewN HD.out _)
                have HMV : Hid (Below W1.heap.size W1 V) := Lib.hid (by rw [hV]; exact below_drewN HM.out _)
                rw [← hV]
                clear hV HD HM y0 y1 xa xb xc
                go_wp2
                go_ret
                exact ⟨by rw [HR.out]; rfl, HDV.out⟩
              · have HR := Lib.hid (HB.out (k + 1) hlt H0.out 2 (errE_rest hin (fun _ => by rw [Nat.add_sub_cancel]; exact hu) (.inr (.inr (.inl g3)))) (by decide))
                generalize (f k).1 = d' at *
                generalize (f (k + 1)) = e at *
                obtain ⟨d, mi, ni⟩ := e
                simp only at *
                have e2 : decide (d ≤ d') = false := decide_eq_false (by omega)
                have n1 : ¬ mi < 0 := by omega
                have n2 : ¬ 1440 < mi := by omega
                clear hc HB HE H0 hin hE hbr
                obtain ⟨m, m7, -, HX⟩ := HW (wr.alloc (.cells #[.int .i64 d, .int .i64 mi, .int .i64 ni] 46))
                have m0 : ¬ (m : Int) < 0 := by omega
                replace HX := Lib.hid HX
                clear HW
                go_wp2_with fail
                refine (HX.out).mono ?_
                rintro e w' ⟨rfl, rfl⟩
                go_wp2
                go_quiet (fail)
                obtain ⟨V, hV⟩ : ∃ V, V = (wr.alloc (.cells #[.int .i64 d, .int .i64 mi, .int .i64 ni] 46)).drewN nq := ⟨_, rfl⟩
                have v0 : V.cell? ⟨wr.heap.size, 0, none⟩ = some (.int .i64 d) := by rw [hV]; exact new_at wr _ _ 0
                have v1 : V.cell? ⟨wr.heap.size, 1, none⟩ = some (.int .i64 mi) := by rw [hV]; exact new_at wr _ _ 1
                have v2 : V.cell? ⟨wr.heap.size, 2, none⟩ = some (.int .i64 ni) := by rw [hV]; exact new_at wr _ _ 2
                have HDV : Hid (Below w.heap.size w V) := Lib.hid (by rw [hV]; exact below_drewN HD.out _)
                have HMV : Hid (Below W1.heap.size W1 V) := Lib.hid (by rw [hV]; exact below_drewN HM.out _)
                rw [← hV]
                clear hV HD HM y0 y1 xa xb xc
                go_wp2
                go_ret
                exact ⟨by rw [HR.out]; rfl, HDV.out⟩
              · have HR := Lib.hid (HB.out (k + 1) hlt H0.out 2 (errE_rest hin (fun _ => by rw [Nat.add_sub_cancel]; exact hu) (.inr (.inr (.inr g4)))) (by decide))
                generalize (f k).1 = d' at *
                generalize (f (k + 1)) = e at *
                obtain ⟨d, mi, ni⟩ := e
                simp only at *
                have e2 : decide (d ≤ d') = false := decide_eq_false (by omega)
                have n1 : ¬ mi < 0 := by omega
                have n2 : ¬ 1440 < mi := by omega
                have n3 : ¬ ni < 0 := by omega
                clear hc HB HE H0 hin hE hbr
                obtain ⟨m, m7, -, HX⟩ := HW (wr.alloc (.cells #[.int .i64 d, .int .i64 mi, .int .i64 ni] 46))
                have m0 : ¬ (m : Int) < 0 := by omega
                replace HX := Lib.hid HX
                clear HW
                go_wp2_with fail
                refine (HX.out).mono ?_
                rintro e w' ⟨rfl, rfl⟩
                go_wp2
                go_quiet (fail)
                obtain ⟨V, hV⟩ : ∃ V, V = (wr.alloc (.cells #[.int .i64 d, .int .i64 mi, .int .i64 ni] 46)).drewN nq := ⟨_, rfl⟩
                have v0 : V.cell? ⟨wr.heap.size, 0, none⟩ = some (.int .i64 d) := by rw [hV]; exact new_at wr _ _ 0
                have v1 : V.cell? ⟨wr.heap.size, 1, none⟩ = some (.int .i64 mi) := by rw [hV]; exact new_at wr _ _ 1
                have v2 : V.cell? ⟨wr.heap.size, 2, none⟩ = some (.int .i64 ni) := by rw [hV]; exact new_at wr _ _ 2
                have HDV : Hid (Below w.heap.size w V) := Lib.hid (by rw [hV]; exact below_drewN HD.out _)
                have HMV : Hid (Below W1.heap.size W1 V) := Lib.hid (by rw [hV]; exact below_drewN HM.out _)
                rw [← hV]
                clear hV HD HM y0 y1 xa xb xc
                go_wp2
                go_ret
                exact ⟨by rw [HR.out]; rfl, HDV.out⟩
              · have HR : Hid (errP f (k + 1 + 1) = 0) := Lib.hid (errP_next H0.out (errE_fine hin (fun _ => by rw [Nat.add_sub_cancel]; exact hu) g1 g2 g3 g4))
                generalize (f k).1 = d' at *
                generalize (f (k + 1)) = e at *
                obtain ⟨d, mi, ni⟩ := e
                simp only at *
                have e2 : decide (d ≤ d') = false := decide_eq_false (by omega)
                have n1 : ¬ mi < 0 := by omega
                have n2 : ¬ 1440 < mi := by omega
                have n3 : ¬ ni < 0 := by omega
                have n4 : ¬ mi < ni := by omega
                clear hc HB HE H0 hin hE hbr
                obtain ⟨m, m7, -, HX⟩ := HW (wr.alloc (.cells #[.int .i64 d, .int .i64 mi, .int .i64 ni] 46))
                have m0 : ¬ (m : Int) < 0 := by omega
                replace HX := Lib.hid HX
                clear HW
                go_wp2_with fail
                refine (HX.out).mono ?_
                rintro e w' ⟨rfl, rfl⟩
                go_wp2
                go_quiet (fail)
                obtain ⟨V, hV⟩ : ∃ V, V = (wr.alloc (.cells #[.int .i64 d, .int .i64 mi, .int .i64 ni] 46)).drewN nq := ⟨_, rfl⟩
                have v0 : V.cell? ⟨wr.heap.size, 0, none⟩ = some (.int .i64 d) := by rw [hV]; exact new_at wr _ _ 0
                have v1 : V.cell? ⟨wr.heap.size, 1, none⟩ = some (.int .i64 mi) := by rw [hV]; exact new_at wr _ _ 1
                have v2 : V.cell? ⟨wr.heap.size, 2, none⟩ = some (.int .i64 ni) := by rw [hV]; exact new_at wr _ _ 2
                have HDV : Hid (Below w.heap.size w V) := Lib.hid (by rw [hV]; exact below_drewN HD.out _)
                have HMV : Hid (Below W1.heap.size W1 V) := Lib.hid (by rw [hV]; exact below_drewN HM.out _)
                rw [← hV]
                clear hV HD HM y0 y1 xa xb xc
                go_wp2
                go_roundw
                case rel => exact ⟨k + 1 + 1, by omega, by go_num, HR, HMV⟩
                case measure => simp [RowKit.intOf]; omega
            · have HR := Lib.hid (HB.out (k + 1) hlt H0.out 8 (errE_up hin hu) (by decide))
              generalize (f k).1 = d' at *
              generalize (f (k + 1)) = e at *
              obtain ⟨d, mi, ni⟩ := e
              simp only at *
              have e2 : decide (d ≤ d') = true := decide_eq_true (by omega)
              clear hc HB HE H0 hin hE HM hbr
              obtain ⟨m, m7, -, HX⟩ := HW (wr.alloc (.cells #[.int .i64 d, .int .i64 mi, .int .i64 ni] 46))
              have m0 : ¬ (m : Int) < 0 := by omega
              replace HX := Lib.hid HX
              clear HW
              go_wp2_with fail
              refine (HX.out).mono ?_
              rintro e w' ⟨rfl, rfl⟩
              go_wp2
              go_quiet (fail)
              go_wp2
              go_ret
              exact ⟨by rw [HR.out]; rfl, below_drewN HD.out _⟩
      · obtain rfl : k = n := by omega
        have HR := Lib.hid (HE.out H0.out)
        clear HB HE H0
        have hcs : D < 0 ∨ (¬ D < 0 ∧ 1440 < D) ∨ (¬ D < 0 ∧ ¬ 1440 < D ∧ W < 0) ∨ (¬ D < 0 ∧ ¬ 1440 < D ∧ ¬ W < 0 ∧ 10080 < W) ∨ (¬ D < 0 ∧ ¬ 1440 < D ∧ ¬ W < 0 ∧ ¬ 10080 < W) := by omega
        rcases hcs with g1 | ⟨g1, g2⟩ | ⟨g1, g2, g3⟩ | ⟨g1, g2, g3, g4⟩ | ⟨g1, g2, g3, g4⟩
        · have HV : Hid (R = 2) := Lib.hid (by rw [HR.out]; unfold errL; rw [if_pos (by omega)])
          clear HR
          go_wp2
          go_ret
          exact ⟨by rw [HV.out]; rfl, hbw.out⟩
        · have HV : Hid (R = 2) := Lib.hid (by rw [HR.out]; unfold errL; rw [if_pos (by omega)])
          clear HR
          go_wp2
          go_ret
          exact ⟨by rw [HV.out]; rfl, hbw.out⟩
        · have HV : Hid (R = 2) := Lib.hid (by rw [HR.out]; unfold errL; rw [if_pos (by omega)])
          clear HR
          go_wp2
          go_ret
          exact ⟨by rw [HV.out]; rfl, hbw.out⟩
        · have HV : Hid (R = 2) := Lib.hid (by rw [HR.out]; unfold errL; rw [if_pos (by omega)])
          clear HR
          go_wp2
          go_ret
          exact ⟨by rw [HV.out]; rfl, hbw.out⟩
        · have HV : Hid (R = 0) := Lib.hid (by rw [HR.out]; unfold errL; rw [if_neg (by omega)])
          clear HR
          go_wp2
          go_ret
          exact ⟨by rw [HV.out]; rfl, hbw.out⟩

end Go.Proofs.Ytlfflnfodnegnaa
