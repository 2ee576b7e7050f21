/-
  What is proved: the contract of the document's own Check of entries and limits. Conditions: the entries lie in memory as the contract says.
-/
import Derived.Test.YtlfflnfodnegnaaSkS
namespace Go.Proofs.Ytlfflnfodnegnaa
open Go Go.RowKit Go.Proofs
set_option linter.unusedVariables false

theorem rin_no (d : Int) (h : inB d = false) (w : World) : Calls Try.prog 24 #[.int .i64 d] w fun e w' => e = .returned (.bool false) ∧ w = w' := by have := rin_any d w; rwa [h] at this
theorem rin_yes (d : Int) (h : inB d = true) (w : World) : Calls Try.prog 24 #[.int .i64 d] w fun e w' => e = .returned (.bool true) ∧ w = w' := by have := rin_any d w; rwa [h] at this

set_option maxHeartbeats 4000000 in
set_option maxRecDepth 100000 in
theorem rCheck_any (f : Nat → En) (p : Option Addr) (n c : Nat) (D W : Int) (w : World) (h : EntsIn w p n f) :
    Calls Try.prog 12 #[.slice p n c, .int .i64 D, .int .i64 W] w fun e w' => e = .returned (.int .i64 (chk f n D W)) ∧ Below w.heap.size w w' := by
  obtain ⟨R, hR⟩ : ∃ R, R = chk f n D W := ⟨_, rfl⟩
  rw [← hR]
  have hE := Lib.hid h
  clear h
  by_cases hl : 4096 < n
  · have HR : Hid (R = 5) := Lib.hid (by rw [hR]; unfold chk; rw [if_pos hl])
    have hl' : (4096 : Int) < (n : Int) := by omega
    clear hR hl
    go_enter Try.func12, Try.ntmps12
    go_wp2
    go_ret
    exact ⟨by rw [HR.out]; rfl, Below.refl _ _⟩
  · have hl' : ¬ (4096 : Int) < (n : Int) := by omega
    have hRf : R = if errP f n = 0 then errL D W else errP f n := by rw [hR]; unfold chk; rw [if_neg hl]
    have HB : Hid (∀ k, k < n → errP f k = 0 → ∀ v, errE f k = v → v ≠ 0 → R = v) := Lib.hid (fun k hk h0 v hv hn => by
      have := errP_stop h0 hk (by rw [hv]; exact hn)
      rw [hRf, if_neg (by rw [this, hv]; exact hn), this, hv])
    have HE : Hid (errP f n = 0 → R = errL D W) := Lib.hid (fun h => by rw [hRf, if_pos h])
    clear hR hRf hl
    go_enter Try.func12, Try.ntmps12
    go_wp2
    go_loopw [7] (fun iv wr => ∃ k : Nat, k ≤ n ∧ iv = .int .i64 k ∧ Hid (errP f k = 0) ∧ Hid (∀ b : Nat, wr.heap[b]? = w.heap[b]?) ∧ Hid (Below w.heap.size w wr)) (fun iv wr => n - (RowKit.intOf iv).toNat)
    case atStart => exact ⟨0, by omega, rfl, Lib.hid rfl, Lib.hid (fun _ => rfl), Lib.hid (Below.refl _ _)⟩
    case round =>
      obtain ⟨k, hk, rfl, H0, HH, hbr⟩ := hrel
      have sm : ∀ {p v}, w.cell? p = some v → wr.cell? p = some v := fun {p v} h => (World.cell?_of_block (w := w) (HH.out p.block)).trans h
      by_cases hlt : k < n
      · have hlI : (k : Int) < (n : Int) := by omega
        rcases hE.out with h | ⟨b, o, rfl, hc⟩
        · omega
        obtain ⟨xa, xb, xc⟩ := hc k hlt
        replace xa := sm xa
        replace xb := sm xb
        replace xc := sm xc
        cases hin : inB (f k).1 with
        | false =>
          have HR := Lib.hid (HB.out k hlt H0.out 15 (errE_in hin) (by decide))
          have HW := Lib.hid (rin_no _ hin)
          generalize (f k) = e at *
          obtain ⟨d, mi, ni⟩ := e
          simp only at *
          clear hc HB HE H0 hin hE sm
          go_wp2_with fail
          refine (HW.out _).mono ?_
          rintro e w' ⟨rfl, rfl⟩
          go_wp2
          go_ret
          exact ⟨by rw [HR.out]; rfl, hbr.out⟩
        | true =>
          have HW := Lib.hid (rin_yes _ hin)
          cases k with
          | zero =>
            have e1 : decide ((0 : Int) < ((0 : Nat) : Int)) = false := by decide
            have hcs : (f 0).2.1 < 0 ∨ (0 ≤ (f 0).2.1 ∧ 1440 < (f 0).2.1) ∨ (0 ≤ (f 0).2.1 ∧ (f 0).2.1 ≤ 1440 ∧ (f 0).2.2 < 0) ∨ (0 ≤ (f 0).2.1 ∧ (f 0).2.1 ≤ 1440 ∧ 0 ≤ (f 0).2.2 ∧ (f 0).2.1 < (f 0).2.2) ∨ (0 ≤ (f 0).2.1 ∧ (f 0).2.1 ≤ 1440 ∧ 0 ≤ (f 0).2.2 ∧ (f 0).2.2 ≤ (f 0).2.1) := by omega
            rcases hcs with g1 | ⟨g1, g2⟩ | ⟨g1, g2, g3⟩ | ⟨g1, g2, g3, g4⟩ | ⟨g1, g2, g3, g4⟩
            · have HR := Lib.hid (HB.out 0 hlt H0.out 2 (errE_rest hin (fun h => absurd h (by omega)) (.inl g1)) (by decide))
              generalize (f 0) = e at *
              obtain ⟨d, mi, ni⟩ := e
              simp only [Int.natCast_zero, Nat.zero_mul, Nat.add_zero] at *
              have m0 : decide (mi < 0) = true := decide_eq_true (by omega)
              clear hc HB HE H0 hin hE sm
              go_wp2_with fail
              refine (HW.out _).mono ?_
              rintro e w' ⟨rfl, rfl⟩
              go_wp2
              go_quiet (fail)
              obtain ⟨V, hV⟩ : ∃ V, V = wr.drewN nq := ⟨_, rfl⟩
              have toV : ∀ p, V.cell? p = wr.cell? p := fun p => by rw [hV]; rfl
              have xb := (toV _).trans xb
              have xc := (toV _).trans xc
              have HHV : Hid (∀ b : Nat, V.heap[b]? = w.heap[b]?) := Lib.hid (by rw [hV]; exact HH.out)
              have HBV : Hid (Below w.heap.size w V) := Lib.hid (by rw [hV]; exact below_drewN hbr.out _)
              rw [← hV]
              clear hV toV HH hbr
              go_wp2
              go_quiet (fail)
              go_wp2
              go_ret
              exact ⟨by rw [HR.out]; rfl, below_drewN HBV.out _⟩
            · have HR := Lib.hid (HB.out 0 hlt H0.out 2 (errE_rest hin (fun h => absurd h (by omega)) (.inr (.inl g2))) (by decide))
              generalize (f 0) = e at *
              obtain ⟨d, mi, ni⟩ := e
              simp only [Int.natCast_zero, Nat.zero_mul, Nat.add_zero] at *
              have m0 : decide (mi < 0) = false := decide_eq_false (by omega)
              have m1 : decide (1440 < mi) = true := decide_eq_true (by omega)
              clear hc HB HE H0 hin hE sm
              go_wp2_with fail
              refine (HW.out _).mono ?_
              rintro e w' ⟨rfl, rfl⟩
              go_wp2
              go_quiet (fail)
              obtain ⟨V, hV⟩ : ∃ V, V = wr.drewN nq := ⟨_, rfl⟩
              have toV : ∀ p, V.cell? p = wr.cell? p := fun p => by rw [hV]; rfl
              have xb := (toV _).trans xb
              have xc := (toV _).trans xc
              have HHV : Hid (∀ b : Nat, V.heap[b]? = w.heap[b]?) := Lib.hid (by rw [hV]; exact HH.out)
              have HBV : Hid (Below w.heap.size w V) := Lib.hid (by rw [hV]; exact below_drewN hbr.out _)
              rw [← hV]
              clear hV toV HH hbr
              go_wp2
              go_quiet (fail)
              go_wp2
              go_ret
              exact ⟨by rw [HR.out]; rfl, below_drewN HBV.out _⟩
            · have HR := Lib.hid (HB.out 0 hlt H0.out 2 (errE_rest hin (fun h => absurd h (by omega)) (.inr (.inr (.inl g3)))) (by decide))
              generalize (f 0) = e at *
              obtain ⟨d, mi, ni⟩ := e
              simp only [Int.natCast_zero, Nat.zero_mul, Nat.add_zero] at *
              have m0 : decide (mi < 0) = false := decide_eq_false (by omega)
              have m1 : decide (1440 < mi) = false := decide_eq_false (by omega)
              have m2 : decide (ni < 0) = true := decide_eq_true (by omega)
              clear hc HB HE H0 hin hE sm
              go_wp2_with fail
              refine (HW.out _).mono ?_
              rintro e w' ⟨rfl, rfl⟩
              go_wp2
              go_quiet (fail)
              obtain ⟨V, hV⟩ : ∃ V, V = wr.drewN nq := ⟨_, rfl⟩
              have toV : ∀ p, V.cell? p = wr.cell? p := fun p => by rw [hV]; rfl
              have xb := (toV _).trans xb
              have xc := (toV _).trans xc
              have HHV : Hid (∀ b : Nat, V.heap[b]? = w.heap[b]?) := Lib.hid (by rw [hV]; exact HH.out)
              have HBV : Hid (Below w.heap.size w V) := Lib.hid (by rw [hV]; exact below_drewN hbr.out _)
              rw [← hV]
              clear hV toV HH hbr
              go_wp2
              go_quiet (fail)
              go_wp2
              go_ret
              exact ⟨by rw [HR.out]; rfl, below_drewN HBV.out _⟩
            · have HR := Lib.hid (HB.out 0 hlt H0.out 2 (errE_rest hin (fun h => absurd h (by omega)) (.inr (.inr (.inr g4)))) (by decide))
              generalize (f 0) = e at *
              obtain ⟨d, mi, ni⟩ := e
              simp only [Int.natCast_zero, Nat.zero_mul, Nat.add_zero] at *
              have m0 : decide (mi < 0) = false := decide_eq_false (by omega)
              have m1 : decide (1440 < mi) = false := decide_eq_false (by omega)
              have m2 : decide (ni < 0) = false := decide_eq_false (by omega)
              have m3 : decide (mi < ni) = true := decide_eq_true (by omega)
              clear hc HB HE H0 hin hE sm
              go_wp2_with fail
              refine (HW.out _).mono ?_
              rintro e w' ⟨rfl, rfl⟩
              go_wp2
              go_quiet (fail)
              obtain ⟨V, hV⟩ : ∃ V, V = wr.drewN nq := ⟨_, rfl⟩
              have toV : ∀ p, V.cell? p = wr.cell? p := fun p => by rw [hV]; rfl
              have xb := (toV _).trans xb
              have xc := (toV _).trans xc
              have HHV : Hid (∀ b : Nat, V.heap[b]? = w.heap[b]?) := Lib.hid (by rw [hV]; exact HH.out)
              have HBV : Hid (Below w.heap.size w V) := Lib.hid (by rw [hV]; exact below_drewN hbr.out _)
              rw [← hV]
              clear hV toV HH hbr
              go_wp2
              go_quiet (fail)
              go_wp2
              go_ret
              exact ⟨by rw [HR.out]; rfl, below_drewN HBV.out _⟩
            · have HR : Hid (errP f 1 = 0) := Lib.hid (errP_next H0.out (errE_fine hin (fun h => absurd h (by omega)) g1 g2 g3 g4))
              generalize (f 0) = e at *
              obtain ⟨d, mi, ni⟩ := e
              simp only [Int.natCast_zero, Nat.zero_mul, Nat.add_zero] at *
              have m0 : decide (mi < 0) = false := decide_eq_false (by omega)
              have m1 : decide (1440 < mi) = false := decide_eq_false (by omega)
              have m2 : decide (ni < 0) = false := decide_eq_false (by omega)
              have m3 : decide (mi < ni) = false := decide_eq_false (by omega)
              clear hc HB HE H0 hin hE sm
              go_wp2_with fail
              refine (HW.out _).mono ?_
              rintro e w' ⟨rfl, rfl⟩
              go_wp2
              go_quiet (fail)
              obtain ⟨V, hV⟩ : ∃ V, V = wr.drewN nq := ⟨_, rfl⟩
              have toV : ∀ p, V.cell? p = wr.cell? p := fun p => by rw [hV]; rfl
              have xb := (toV _).trans xb
              have xc := (toV _).trans xc
              have HHV : Hid (∀ b : Nat, V.heap[b]? = w.heap[b]?) := Lib.hid (by rw [hV]; exact HH.out)
              have HBV : Hid (Below w.heap.size w V) := Lib.hid (by rw [hV]; exact below_drewN hbr.out _)
              rw [← hV]
              clear hV toV HH hbr
              go_wp2
              go_quiet (fail)
              go_wp2
              exact ⟨⟨1, by omega, by go_num, HR, Lib.hid (fun b => HHV.out b), Lib.hid (below_drewN HBV.out _)⟩, by simp [RowKit.intOf]; omega⟩
          | succ k =>
            obtain ⟨xj, -, -⟩ := hc k (by omega)
            replace xj := sm xj
            have e1 : decide ((0 : Int) < ((k + 1 : Nat) : Int)) = true := by simp
            have i2 : ((k + 1 : Nat) : Int) - 1 = (k : Int) := by omega
            have i3 : (0 : Int) < ((k + 1 : Nat) : Int) := by omega
            have i4 : (k : Int) < (n : Int) := by omega
            rcases Int.lt_or_le (f k).1 (f (k + 1)).1 with hu | hu
            · have hM : ∃ m : Nat, m < 7 := ⟨0, by omega⟩
              have hcs : (f (k + 1)).2.1 < 0 ∨ (0 ≤ (f (k + 1)).2.1 ∧ 1440 < (f (k + 1)).2.1) ∨ (0 ≤ (f (k + 1)).2.1 ∧ (f (k + 1)).2.1 ≤ 1440 ∧ (f (k + 1)).2.2 < 0) ∨ (0 ≤ (f (k + 1)).2.1 ∧ (f (k + 1)).2.1 ≤ 1440 ∧ 0 ≤ (f (k + 1)).2.2 ∧ (f (k + 1)).2.1 < (f (k + 1)).2.2) ∨ (0 ≤ (f (k + 1)).2.1 ∧ (f (k + 1)).2.1 ≤ 1440 ∧ 0 ≤ (f (k + 1)).2.2 ∧ (f (k + 1)).2.2 ≤ (f (k + 1)).2.1) := by omega
              rcases hcs with g1 | ⟨g1, g2⟩ | ⟨g1, g2, g3⟩ | ⟨g1, g2, g3, g4⟩ | ⟨g1, g2, g3, g4⟩
              · have HR := Lib.hid (HB.out (k + 1) hlt H0.out 2 (errE_rest hin (fun _ => by rw [Nat.add_sub_cancel]; exact hu) (.inl g1)) (by decide))
                generalize (f k).1 = d' at *
                generalize (f (k + 1)) = e at *
                obtain ⟨d, mi, ni⟩ := e
                simp only at *
                have e2 : decide (d ≤ d') = false := decide_eq_false (by omega)
                have m0 : decide (mi < 0) = true := decide_eq_true (by omega)
                clear hc HB HE H0 hin hE sm
                go_wp2_with fail
                refine (HW.out _).mono ?_
                rintro e w' ⟨rfl, rfl⟩
                go_wp2
                go_quiet (fail)
                obtain ⟨V, hV⟩ : ∃ V, V = wr.drewN nq := ⟨_, rfl⟩
                have toV : ∀ p, V.cell? p = wr.cell? p := fun p => by rw [hV]; rfl
                have xb := (toV _).trans xb
                have xc := (toV _).trans xc
                have HHV : Hid (∀ b : Nat, V.heap[b]? = w.heap[b]?) := Lib.hid (by rw [hV]; exact HH.out)
                have HBV : Hid (Below w.heap.size w V) := Lib.hid (by rw [hV]; exact below_drewN hbr.out _)
                rw [← hV]
                clear hV toV HH hbr
                go_wp2
                go_quiet (fail)
                go_wp2
                go_ret
                exact ⟨by rw [HR.out]; rfl, below_drewN HBV.out _⟩
              · have HR := Lib.hid (HB.out (k + 1) hlt H0.out 2 (errE_rest hin (fun _ => by rw [Nat.add_sub_cancel]; exact hu) (.inr (.inl g2))) (by decide))
                generalize (f k).1 = d' at *
                generalize (f (k + 1)) = e at *
                obtain ⟨d, mi, ni⟩ := e
                simp only at *
                have e2 : decide (d ≤ d') = false := decide_eq_false (by omega)
                have m0 : decide (mi < 0) = false := decide_eq_false (by omega)
                have m1 : decide (1440 < mi) = true := decide_eq_true (by omega)
                clear hc HB HE H0 hin hE sm
                go_wp2_with fail
                refine (HW.out _).mono ?_
                rintro e w' ⟨rfl, rfl⟩
                go_wp2
                go_quiet (fail)
                obtain ⟨V, hV⟩ : ∃ V, V = wr.drewN nq := ⟨_, rfl⟩
                have toV : ∀ p, V.cell? p = wr.cell? p := fun p => by rw [hV]; rfl
                have xb := (toV _).trans xb
                have xc := (toV _).trans xc
                have HHV : Hid (∀ b : Nat, V.heap[b]? = w.heap[b]?) := Lib.hid (by rw [hV]; exact HH.out)
                have HBV : Hid (Below w.heap.size w V) := Lib.hid (by rw [hV]; exact below_drewN hbr.out _)
                rw [← hV]
                clear hV toV HH hbr
                go_wp2
                go_quiet (fail)
                go_wp2
                go_ret
                exact ⟨by rw [HR.out]; rfl, below_drewN HBV.out _⟩
              · have HR := Lib.hid (HB.out (k + 1) hlt H0.out 2 (errE_rest hin (fun _ => by rw [Nat.add_sub_cancel]; exact hu) (.inr (.inr (.inl g3)))) (by decide))
                generalize (f k).1 = d' at *
                generalize (f (k + 1)) = e at *
                obtain ⟨d, mi, ni⟩ := e
                simp only at *
                have e2 : decide (d ≤ d') = false := decide_eq_false (by omega)
                have m0 : decide (mi < 0) = false := decide_eq_false (by omega)
                have m1 : decide (1440 < mi) = false := decide_eq_false (by omega)
                have m2 : decide (ni < 0) = true := decide_eq_true (by omega)
                clear hc HB HE H0 hin hE sm
                go_wp2_with fail
                refine (HW.out _).mono ?_
                rintro e w' ⟨rfl, rfl⟩
                go_wp2
                go_quiet (fail)
                obtain ⟨V, hV⟩ : ∃ V, V = wr.drewN nq := ⟨_, rfl⟩
                have toV : ∀ p, V.cell? p = wr.cell? p := fun p => by rw [hV]; rfl
                have xb := (toV _).trans xb
                have xc := (toV _).trans xc
                have HHV : Hid (∀ b : Nat, V.heap[b]? = w.heap[b]?) := Lib.hid (by rw [hV]; exact HH.out)
                have HBV : Hid (Below w.heap.size w V) := Lib.hid (by rw [hV]; exact below_drewN hbr.out _)
                rw [← hV]
                clear hV toV HH hbr
                go_wp2
                go_quiet (fail)
                go_wp2
                go_ret
                exact ⟨by rw [HR.out]; rfl, below_drewN HBV.out _⟩
              · have HR := Lib.hid (HB.out (k + 1) hlt H0.out 2 (errE_rest hin (fun _ => by rw [Nat.add_sub_cancel]; exact hu) (.inr (.inr (.inr g4)))) (by decide))
                generalize (f k).1 = d' at *
                generalize (f (k + 1)) = e at *
                obtain ⟨d, mi, ni⟩ := e
                simp only at *
                have e2 : decide (d ≤ d') = false := decide_eq_false (by omega)
                have m0 : decide (mi < 0) = false := decide_eq_false (by omega)
                have m1 : decide (1440 < mi) = false := decide_eq_false (by omega)
                have m2 : decide (ni < 0) = false := decide_eq_false (by omega)
                have m3 : decide (mi < ni) = true := decide_eq_true (by omega)
                clear hc HB HE H0 hin hE sm
                go_wp2_with fail
                refine (HW.out _).mono ?_
                rintro e w' ⟨rfl, rfl⟩
                go_wp2
                go_quiet (fail)
                obtain ⟨V, hV⟩ : ∃ V, V = wr.drewN nq := ⟨_, rfl⟩
                have toV : ∀ p, V.cell? p = wr.cell? p := fun p => by rw [hV]; rfl
                have xb := (toV _).trans xb
                have xc := (toV _).trans xc
                have HHV : Hid (∀ b : Nat, V.heap[b]? = w.heap[b]?) := Lib.hid (by rw [hV]; exact HH.out)
                have HBV : Hid (Below w.heap.size w V) := Lib.hid (by rw [hV]; exact below_drewN hbr.out _)
                rw [← hV]
                clear hV toV HH hbr
                go_wp2
                go_quiet (fail)
                go_wp2
                go_ret
                exact ⟨by rw [HR.out]; rfl, below_drewN HBV.out _⟩
              · have HR : Hid (errP f (k + 1 + 1) = 0) := Lib.hid (errP_next H0.out (errE_fine hin (fun _ => by rw [Nat.add_sub_cancel]; exact hu) g1 g2 g3 g4))
                generalize (f k).1 = d' at *
                generalize (f (k + 1)) = e at *
                obtain ⟨d, mi, ni⟩ := e
                simp only at *
                have e2 : decide (d ≤ d') = false := decide_eq_false (by omega)
                have m0 : decide (mi < 0) = false := decide_eq_false (by omega)
                have m1 : decide (1440 < mi) = false := decide_eq_false (by omega)
                have m2 : decide (ni < 0) = false := decide_eq_false (by omega)
                have m3 : decide (mi < ni) = false := decide_eq_false (by omega)
                clear hc HB HE H0 hin hE sm
                go_wp2_with fail
                refine (HW.out _).mono ?_
                rintro e w' ⟨rfl, rfl⟩
                go_wp2
                go_quiet (fail)
                obtain ⟨V, hV⟩ : ∃ V, V = wr.drewN nq := ⟨_, rfl⟩
                have toV : ∀ p, V.cell? p = wr.cell? p := fun p => by rw [hV]; rfl
                have xb := (toV _).trans xb
                have xc := (toV _).trans xc
                have HHV : Hid (∀ b : Nat, V.heap[b]? = w.heap[b]?) := Lib.hid (by rw [hV]; exact HH.out)
                have HBV : Hid (Below w.heap.size w V) := Lib.hid (by rw [hV]; exact below_drewN hbr.out _)
                rw [← hV]
                clear hV toV HH hbr
                go_wp2
                go_quiet (fail)
                go_wp2
                exact ⟨⟨k + 1 + 1, by omega, by go_num, HR, Lib.hid (fun b => HHV.out b), Lib.hid (below_drewN HBV.out _)⟩, by simp [RowKit.intOf]; omega⟩
            · have HR := Lib.hid (HB.out (k + 1) hlt H0.out 8 (errE_up hin hu) (by decide))
              generalize (f k).1 = d' at *
              generalize (f (k + 1)) = e at *
              obtain ⟨d, mi, ni⟩ := e
              simp only at *
              have e2 : decide (d ≤ d') = true := decide_eq_true (by omega)
              clear hc HB HE H0 hin hE sm
              go_wp2_with fail
              refine (HW.out _).mono ?_
              rintro e w' ⟨rfl, rfl⟩
              go_wp2
              go_quiet (fail)
              go_wp2
              go_ret
              exact ⟨by rw [HR.out]; rfl, below_drewN hbr.out _⟩
      · obtain rfl : k = n := by omega
        have HR := Lib.hid (HE.out H0.out)
        clear HB HE H0 sm
        have hcs : D < 0 ∨ (¬ D < 0 ∧ 1440 < D) ∨ (¬ D < 0 ∧ ¬ 1440 < D ∧ W < 0) ∨ (¬ D < 0 ∧ ¬ 1440 < D ∧ ¬ W < 0 ∧ 10080 < W) ∨ (¬ D < 0 ∧ ¬ 1440 < D ∧ ¬ W < 0 ∧ ¬ 10080 < W) := by omega
        rcases hcs with g1 | ⟨g1, g2⟩ | ⟨g1, g2, g3⟩ | ⟨g1, g2, g3, g4⟩ | ⟨g1, g2, g3, g4⟩
        · have HV : Hid (R = 2) := Lib.hid (by rw [HR.out]; unfold errL; rw [if_pos (by omega)])
          clear HR
          go_wp2
          go_ret
          exact ⟨by rw [HV.out]; rfl, hbr.out⟩
        · have HV : Hid (R = 2) := Lib.hid (by rw [HR.out]; unfold errL; rw [if_pos (by omega)])
          clear HR
          go_wp2
          go_ret
          exact ⟨by rw [HV.out]; rfl, hbr.out⟩
        · have HV : Hid (R = 2) := Lib.hid (by rw [HR.out]; unfold errL; rw [if_pos (by omega)])
          clear HR
          go_wp2
          go_ret
          exact ⟨by rw [HV.out]; rfl, hbr.out⟩
        · have HV : Hid (R = 2) := Lib.hid (by rw [HR.out]; unfold errL; rw [if_pos (by omega)])
          clear HR
          go_wp2
          go_ret
          exact ⟨by rw [HV.out]; rfl, hbr.out⟩
        · have HV : Hid (R = 0) := Lib.hid (by rw [HR.out]; unfold errL; rw [if_neg (by omega)])
          clear HR
          go_wp2
          go_ret
          exact ⟨by rw [HV.out]; rfl, hbr.out⟩

end Go.Proofs.Ytlfflnfodnegnaa
