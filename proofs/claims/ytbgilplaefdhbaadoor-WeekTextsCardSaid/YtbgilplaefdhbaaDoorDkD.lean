/-
  What is proved: the contracts of the document's own Check and On. Conditions: the free days lie in memory as the contract says.
-/
import Derived.Test.YtbgilplaefdhbaaDoorDkC
import Derived.Deep.Draws
namespace Go.Proofs.YtbgilplaefdhbaaDoor
open Go Go.RowKit Go.Proofs

theorem box7 (q : Nat → Int) (w : World) (t : TypeId) (k : Nat) (hk : k < 7) : (w.alloc (.cells #[.int .i64 (q 0), .int .i64 (q 1), .int .i64 (q 2), .int .i64 (q 3), .int .i64 (q 4), .int .i64 (q 5), .int .i64 (q 6)] t)).cell? ⟨w.heap.size, k, none⟩ = some (.int .i64 (q k)) := by
  rw [World.cell?_alloc_new]
  have e : k = 0 ∨ k = 1 ∨ k = 2 ∨ k = 3 ∨ k = 4 ∨ k = 5 ∨ k = 6 := by omega
  rcases e with rfl | rfl | rfl | rfl | rfl | rfl | rfl <;> rfl
theorem fnz_bad {q : Nat → Int} {k : Nat} (h0 : fnz (wkBad q) k = 0) (hk : k < 7) (h : q k < 0 ∨ 1440 < q k) : chkW q = 2 := by
  have e : wkBad q k = 2 := by unfold wkBad; rw [if_pos h]
  rw [show chkW q = wkBad q k from fnz_stop h0 (by rw [e]; decide) hk, e]
theorem fnz_good {q : Nat → Int} {k : Nat} (h0 : fnz (wkBad q) k = 0) (h1 : 0 ≤ q k) (h2 : q k ≤ 1440) : fnz (wkBad q) (k + 1) = 0 := fnz_next h0 (by unfold wkBad; rw [if_neg]; omega)

set_option maxHeartbeats 2000000 in
set_option maxRecDepth 100000 in
theorem rChk_any (q : Nat → Int) (F : List Int) (p : Option Addr) (c : Nat) (w : World) (h : DaysIn w p F) :
    Calls Tryd.prog 6 #[.agg #[.int .i64 (q 0), .int .i64 (q 1), .int .i64 (q 2), .int .i64 (q 3), .int .i64 (q 4), .int .i64 (q 5), .int .i64 (q 6)], .slice p F.length c] w fun e w' => e = .returned (.int .i64 (chk q F)) ∧ Below w.heap.size w w' := by
  obtain ⟨n, hnl⟩ : ∃ n, n = F.length := ⟨_, rfl⟩
  obtain ⟨R, hR⟩ : ∃ R, R = chk q F := ⟨_, rfl⟩
  obtain ⟨W1, hW1⟩ : ∃ W1, W1 = w.alloc (.cells #[.int .i64 (q 0), .int .i64 (q 1), .int .i64 (q 2), .int .i64 (q 3), .int .i64 (q 4), .int .i64 (q 5), .int .i64 (q 6)] 22) := ⟨_, rfl⟩
  have hb0 : Below w.heap.size w W1 := by rw [hW1]; exact (Below.refl w.heap.size w).alloc (Nat.le_refl _) _
  have hX := Lib.hid (box7 q w 22)
  rw [← hW1] at hX
  have hD := Lib.hid (h.below hb0 (Nat.le_refl _))
  rw [← hnl, ← hR]
  have H2 : Hid (chkW q = 2 → R = 2) := Lib.hid (fun h => by rw [hR]; exact chk_bad h)
  have H5 : Hid (chkW q = 0 → 4096 < n → R = 5) := Lib.hid (fun h h1 => by rw [hR]; exact chk_long h (by rw [← hnl]; exact h1))
  have HB : Hid (chkW q = 0 → ¬ 4096 < n → ∀ k, k < n → fnz (frBad F) k = 0 → ∀ v, frBad F k = v → v ≠ 0 → R = v) := Lib.hid (fun h h1 k hk h0 v hv hn => by rw [hR, chk_fr h (by rw [← hnl]; exact h1), ← hv]; exact fnz_stop h0 (by rw [hv]; exact hn) (by rw [← hnl]; exact hk))
  have HE : Hid (chkW q = 0 → ¬ 4096 < n → fnz (frBad F) n = 0 → R = 0) := Lib.hid (fun h h1 h2 => by rw [hR, chk_fr h (by rw [← hnl]; exact h1), ← hnl]; exact h2)
  have HN := Lib.hid hnl
  clear h hnl hR
  go_enter Tryd.func6, Tryd.ntmps6
  go_wp2
  rw [← hW1]
  clear hW1
  go_loop [5] (fun iv => ∃ k : Nat, k ≤ 7 ∧ iv = .int .i64 k ∧ Hid (fnz (wkBad q) k = 0)) (fun iv => 7 - (RowKit.intOf iv).toNat)
  case atStart => exact ⟨0, by omega, rfl, Lib.hid rfl⟩
  case round =>
    obtain ⟨k, hk, rfl, H0⟩ := hrel
    by_cases hlt : k < 7
    · have xk := hX.out k hlt
      have hlI : (k : Int) < 7 := by omega
      rcases Int.lt_or_le (q k) 0 with h1 | h1
      · have HR := Lib.hid (H2.out (fnz_bad H0.out hlt (.inl h1)))
        generalize q k = x at *
        clear HB HE H2 H5 H0 HN hD hX
        go_wp2
        go_ret
        exact ⟨by rw [HR.out]; rfl, hb0⟩
      · rcases Int.lt_or_le 1440 (q k) with h2 | h2
        · have HR := Lib.hid (H2.out (fnz_bad H0.out hlt (.inr h2)))
          generalize q k = x at *
          clear HB HE H2 H5 H0 HN hD hX
          go_wp2
          go_ret
          exact ⟨by rw [HR.out]; rfl, hb0⟩
        · have HR := Lib.hid (fnz_good H0.out h1 h2)
          generalize q k = x at *
          clear HB HE H2 H5 H0 HN hD hX
          go_wp2
          go_round
          case rel => exact ⟨k + 1, by omega, by go_num, HR⟩
          case measure => simp [RowKit.intOf]; omega
    · obtain rfl : k = 7 := by omega
      have h0 : Hid (chkW q = 0) := Lib.hid H0.out
      clear H0 hk hX H2
      by_cases hl : 4096 < n
      · have HR := Lib.hid (H5.out h0.out hl)
        have hl' : (4096 : Int) < (n : Int) := by omega
        clear HB HE H5 HN hD
        go_wp2
        go_ret
        exact ⟨by rw [HR.out]; rfl, hb0⟩
      · have hl' : ¬ (4096 : Int) < (n : Int) := by omega
        have HB2 := Lib.hid (HB.out h0.out hl)
        have HE2 := Lib.hid (HE.out h0.out hl)
        clear HB HE H5 hlt
        go_wp2
        go_loopw [6] (fun iv wr => ∃ k : Nat, k ≤ n ∧ iv = .int .i64 k ∧ Hid (fnz (frBad F) k = 0) ∧ Below W1.heap.size W1 wr) (fun iv _ => n - (RowKit.intOf iv).toNat)
        case atStart => exact ⟨0, by omega, rfl, Lib.hid rfl, Below.refl _ _⟩
        case round =>
          obtain ⟨k, hk, rfl, H0, hb⟩ := hrel
          have hb3 := hb0.trans (hb.mono hb0.size)
          by_cases hlt : k < n
          · have hlI : (k : Int) < (n : Int) := by omega
            have hD2 := hD.out.below hb (Nat.le_refl _)
            rcases hD2 with h | ⟨b, o, rfl, hc⟩
            · have := HN.out; rw [h] at this; simp at this; omega
            have xk := hc k (by have := HN.out; omega)
            have HI := rin_any (F.getD k 0)
            cases hin : inB (F.getD k 0) with
            | false =>
              rw [hin] at HI
              have HI := Lib.hid HI
              have HR := Lib.hid (HB2.out k hlt H0.out 15 (frBad_in hin) (by decide))
              generalize F.getD k 0 = d at *
              clear hc HB2 HE2 H0 hin HN hD
              go_wp2_with fail
              refine (HI.out _).mono ?_
              rintro e w' ⟨rfl, rfl⟩
              go_wp2
              go_ret
              exact ⟨by rw [HR.out]; rfl, hb3⟩
            | true =>
              rw [hin] at HI
              have HI := Lib.hid HI
              cases k with
              | zero =>
                have HR : Hid (fnz (frBad F) 1 = 0) := Lib.hid (fnz_next H0.out (frBad_ok0 hin))
                generalize F.getD 0 0 = d at *
                have e1 : decide ((0 : Int) < ((0 : Nat) : Int)) = false := by decide
                simp only [Int.natCast_zero, Nat.add_zero] at *
                clear hc HB2 HE2 H0 hin HN hD
                go_wp2_with fail
                refine (HI.out _).mono ?_
                rintro e w' ⟨rfl, rfl⟩
                go_wp2
                go_quiet (fail)
                go_wp2
                exact ⟨⟨1, by omega, by go_num, HR, below_drewN hb _⟩, by simp [RowKit.intOf]; omega⟩
              | succ k =>
                have xj := hc k (by have := HN.out; omega)
                have e1 : decide ((0 : Int) < ((k + 1 : Nat) : Int)) = true := by simp
                have i2 : ((k + 1 : Nat) : Int) - 1 = (k : Int) := by omega
                have i3 : (0 : Int) < ((k + 1 : Nat) : Int) := by omega
                have i4 : (k : Int) < (n : Int) := by omega
                rcases Int.lt_or_le (F.getD k 0) (F.getD (k + 1) 0) with hu | hu
                · have HR : Hid (fnz (frBad F) (k + 1 + 1) = 0) := Lib.hid (fnz_next H0.out (frBad_ok hin hu))
                  have e2 : decide (F.getD (k + 1) 0 ≤ F.getD k 0) = false := decide_eq_false (by omega)
                  generalize F.getD k 0 = d' at *
                  generalize F.getD (k + 1) 0 = d at *
                  clear hc HB2 HE2 H0 hin HN hD
                  go_wp2_with fail
                  refine (HI.out _).mono ?_
                  rintro e w' ⟨rfl, rfl⟩
                  go_wp2
                  go_quiet (fail)
                  go_wp2
                  exact ⟨⟨k + 1 + 1, by omega, by go_num, HR, below_drewN hb _⟩, by simp [RowKit.intOf]; omega⟩
                · have HR := Lib.hid (HB2.out (k + 1) hlt H0.out 8 (frBad_up hin hu) (by decide))
                  have e2 : decide (F.getD (k + 1) 0 ≤ F.getD k 0) = true := decide_eq_true hu
                  generalize F.getD k 0 = d' at *
                  generalize F.getD (k + 1) 0 = d at *
                  clear hc HB2 HE2 H0 hin HN hD
                  go_wp2_with fail
                  refine (HI.out _).mono ?_
                  rintro e w' ⟨rfl, rfl⟩
                  go_wp2
                  go_quiet (fail)
                  go_wp2
                  go_ret
                  exact ⟨by rw [HR.out]; rfl, below_drewN hb3 _⟩
          · obtain rfl : k = n := by omega
            have HR := Lib.hid (HE2.out H0.out)
            clear HB2 HE2 H0
            go_wp2
            go_ret
            exact ⟨by rw [HR.out]; rfl, hb3⟩

end Go.Proofs.YtbgilplaefdhbaaDoor
