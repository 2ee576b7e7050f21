/-
  What is proved: the contracts of Check of a pattern, and of the document's own Check and On. Conditions: the free days lie in memory as the contract says.
-/
import Derived.Test.YtbgilplaefdhbaaDoorDkB
namespace Go.Proofs.YtbgilplaefdhbaaDoor
open Go Go.RowKit Go.Proofs

theorem chk_bad {q : Nat → Int} {F : List Int} (h : chkW q = 2) : chk q F = 2 := by unfold chk; rw [if_neg (by omega)]
theorem chk_long {q : Nat → Int} {F : List Int} (h : chkW q = 0) (h1 : 4096 < F.length) : chk q F = 5 := by unfold chk chkF; rw [if_pos h, if_pos h1]
theorem chk_fr {q : Nat → Int} {F : List Int} (h : chkW q = 0) (h1 : ¬ 4096 < F.length) : chk q F = fnz (frBad F) F.length := by unfold chk chkF; rw [if_pos h, if_neg h1]
theorem frBad_in {F : List Int} {k : Nat} (h : inB (F.getD k 0) = false) : frBad F k = 15 := by unfold frBad; rw [if_pos h]
theorem frBad_up {F : List Int} {k : Nat} (h : inB (F.getD (k + 1) 0) = true) (h1 : F.getD (k + 1) 0 ≤ F.getD k 0) : frBad F (k + 1) = 8 := by
  unfold frBad; rw [if_neg (by rw [h]; simp), if_pos]; exact ⟨by omega, by rw [Nat.add_sub_cancel]; exact h1⟩
theorem frBad_ok {F : List Int} {k : Nat} (h : inB (F.getD (k + 1) 0) = true) (h1 : F.getD k 0 < F.getD (k + 1) 0) : frBad F (k + 1) = 0 := by
  unfold frBad; rw [if_neg (by rw [h]; simp), if_neg]; rintro ⟨-, h2⟩; rw [Nat.add_sub_cancel] at h2; omega
theorem frBad_ok0 {F : List Int} (h : inB (F.getD 0 0) = true) : frBad F 0 = 0 := by
  unfold frBad; rw [if_neg (by rw [h]; simp), if_neg]; rintro ⟨h2, -⟩; omega
theorem wkV_no {d : Int} (h : inB d = false) : wkV d = -1 := by unfold wkV; rw [h]; rfl
theorem wk_no (d : Int) (h : inB d = false) (w : World) : Calls Tryd.prog 24 #[.int .i64 d] w fun e w' => e = .returned (.int .i64 (-1)) ∧ w = w' := by have := wk_any d w; rwa [wkV_no h] at this
theorem wk_at (d : Int) (h : inB d = true) (w : World) : ∃ m : Nat, m < 7 ∧ wkV d = m ∧ Calls Tryd.prog 24 #[.int .i64 d] w fun e w' => e = .returned (.int .i64 m) ∧ w = w' := by
  have h1 := wkV_bd h
  refine ⟨(wkV d).toNat, by omega, by omega, ?_⟩
  have := wk_any d w
  rwa [show (((wkV d).toNat : Nat) : Int) = wkV d by omega]

set_option maxHeartbeats 2000000 in
set_option maxRecDepth 100000 in
theorem Check_any (q : Nat → Int) (F : List Int) (p : Option Addr) (c : Nat) (w : World) (h : DaysIn w p F) :
    Calls Tryd.prog 25 #[.agg #[.int .i64 (q 0), .int .i64 (q 1), .int .i64 (q 2), .int .i64 (q 3), .int .i64 (q 4), .int .i64 (q 5), .int .i64 (q 6), .slice p F.length c]] w fun e w' => e = .returned (.int .i64 (chk q F)) ∧ Below w.heap.size w w' := by
  obtain ⟨n, hnl⟩ : ∃ n, n = F.length := ⟨_, rfl⟩
  obtain ⟨R, hR⟩ : ∃ R, R = chk q F := ⟨_, rfl⟩
  obtain ⟨W1, hW1⟩ : ∃ W1, W1 = w.alloc (.cells #[.int .i64 (q 0), .int .i64 (q 1), .int .i64 (q 2), .int .i64 (q 3), .int .i64 (q 4), .int .i64 (q 5), .int .i64 (q 6), .slice p n c] 41) := ⟨_, rfl⟩
  have hb0 : Below w.heap.size w W1 := by rw [hW1]; exact (Below.refl w.heap.size w).alloc (Nat.le_refl _) _
  have hg : w.heap.size < W1.heap.size := by rw [hW1]; simp
  have x7 : W1.cell? ⟨w.heap.size, 7, none⟩ = some (.slice p n c) := by rw [hW1, World.cell?_alloc_new]; rfl
  have hD := Lib.hid (h.below hb0 (Nat.le_refl _))
  rw [← hnl, ← hR]
  clear h
  rcases chkW_or q with h0 | h2
  · have HI := isRight_any q
    rw [show decide (chkW q = 0) = true by rw [h0]; rfl] at HI
    have HI := Lib.hid HI
    by_cases hl : 4096 < n
    · have HR : Hid (R = 5) := Lib.hid (by rw [hR]; exact chk_long h0 (by rw [← hnl]; exact hl))
      have hl' : (4096 : Int) < (n : Int) := by omega
      clear h0 hR hnl
      go_enter Tryd.func25, Tryd.ntmps25
      go_wp2_with fail
      rw [← hW1]
      clear hW1
      refine (HI.out _).mono ?_
      rintro e w2 ⟨rfl, hb2⟩
      have y7 := (bcell hb2 _ 7 hg).trans x7
      have hb3 := hb0.trans (hb2.mono hb0.size)
      clear hb2 hb0 x7
      go_wp2
      go_ret
      exact ⟨by rw [HR.out]; rfl, hb3⟩
    · have hl' : ¬ (4096 : Int) < (n : Int) := by omega
      have hRf : R = fnz (frBad F) F.length := by rw [hR]; exact chk_fr h0 (by rw [← hnl]; exact hl)
      have HB : Hid (∀ k, k < n → fnz (frBad F) k = 0 → ∀ v, frBad F k = v → v ≠ 0 → R = v) := Lib.hid (fun k hk h0 v hv hn => by rw [hRf, ← hv]; exact fnz_stop h0 (by rw [hv]; exact hn) (by rw [← hnl]; exact hk))
      have HE : Hid (fnz (frBad F) n = 0 → R = 0) := Lib.hid (fun h => by rw [hRf, ← hnl]; exact h)
      have HN := Lib.hid hnl
      clear h0 hR hnl hRf
      go_enter Tryd.func25, Tryd.ntmps25
      go_wp2_with fail
      rw [← hW1]
      clear hW1
      refine (HI.out _).mono ?_
      rintro e w2 ⟨rfl, hb2⟩
      have y7 := (bcell hb2 _ 7 hg).trans x7
      have hb3 := hb0.trans (hb2.mono hb0.size)
      have hD2 := Lib.hid (hD.out.below hb2 (Nat.le_refl _))
      clear hb2 hb0 x7 HI hD
      go_wp2
      go_loop [16] (fun iv => ∃ k : Nat, k ≤ n ∧ iv = .int .i64 k ∧ Hid (fnz (frBad F) k = 0)) (fun iv => n - (RowKit.intOf iv).toNat)
      case atStart => exact ⟨0, by omega, rfl, Lib.hid rfl⟩
      case round =>
        obtain ⟨k, hk, rfl, H0⟩ := hrel
        by_cases hlt : k < n
        · have hlI : (k : Int) < (n : Int) := by omega
          rcases hD2.out with h | ⟨b, o, rfl, hc⟩
          · have := HN.out; rw [h] at this; simp at this; omega
          have xk := hc k (by have := HN.out; omega)
          cases hin : inB (F.getD k 0) with
          | false =>
            have HR := Lib.hid (HB.out k hlt H0.out 15 (frBad_in hin) (by decide))
            have HW := Lib.hid (wk_no _ hin)
            generalize F.getD k 0 = d at *
            clear hc HB HE H0 hin HN hD2
            go_wp2_with fail
            refine (HW.out _).mono ?_
            rintro e w' ⟨rfl, rfl⟩
            go_wp2
            go_ret
            exact ⟨by rw [HR.out]; rfl, hb3⟩
          | true =>
            obtain ⟨m, m7, -, HW⟩ := wk_at _ hin w2
            have HW := Lib.hid HW
            have m0 : ¬ (m : Int) < 0 := by omega
            cases k with
            | zero =>
              have HR : Hid (fnz (frBad F) 1 = 0) := Lib.hid (fnz_next H0.out (frBad_ok0 hin))
              generalize F.getD 0 0 = d at *
              have e1 : decide ((0 : Int) < ((0 : Nat) : Int)) = false := by decide
              simp only [Int.natCast_zero, Nat.add_zero] at *
              clear hc HB HE H0 hin HN hD2
              go_wp2_with fail
              refine (HW.out).mono ?_
              rintro e w' ⟨rfl, rfl⟩
              go_wp2
              go_round
              case rel => exact ⟨1, by omega, by go_num, HR⟩
              case measure => simp [RowKit.intOf]; omega
            | succ k =>
              have xj := hc k (by have := HN.out; omega)
              have e1 : decide ((0 : Int) < ((k + 1 : Nat) : Int)) = true := by simp
              have i2 : ((k + 1 : Nat) : Int) - 1 = (k : Int) := by omega
              have i3 : (0 : Int) < ((k + 1 : Nat) : Int) := by omega
              have i4 : (k : Int) < (n : Int) := by omega
              rcases Int.lt_or_le (F.getD k 0) (F.getD (k + 1) 0) with hu | hu
              · have HR : Hid (fnz (frBad F) (k + 1 + 1) = 0) := Lib.hid (fnz_next H0.out (frBad_ok hin hu))
                generalize F.getD k 0 = d' at *
                generalize F.getD (k + 1) 0 = d at *
                clear hc HB HE H0 hin HN hD2
                go_wp2_with fail
                refine (HW.out).mono ?_
                rintro e w' ⟨rfl, rfl⟩
                go_wp2
                go_round
                case rel => exact ⟨k + 1 + 1, by omega, by go_num, HR⟩
                case measure => simp [RowKit.intOf]; omega
              · have HR := Lib.hid (HB.out (k + 1) hlt H0.out 8 (frBad_up hin hu) (by decide))
                generalize F.getD k 0 = d' at *
                generalize F.getD (k + 1) 0 = d at *
                clear hc HB HE H0 hin HN hD2
                go_wp2_with fail
                refine (HW.out).mono ?_
                rintro e w' ⟨rfl, rfl⟩
                go_wp2
                go_ret
                exact ⟨by rw [HR.out]; rfl, hb3⟩
        · obtain rfl : k = n := by omega
          have HR := Lib.hid (HE.out H0.out)
          clear HB HE H0
          go_wp2
          go_ret
          exact ⟨by rw [HR.out]; rfl, hb3⟩
  · have HI := isRight_any q
    rw [show decide (chkW q = 0) = false by rw [h2]; rfl] at HI
    have HI := Lib.hid HI
    have HR : Hid (R = 2) := Lib.hid (by rw [hR]; exact chk_bad h2)
    clear h2 hR hnl
    go_enter Tryd.func25, Tryd.ntmps25
    go_wp2_with fail
    rw [← hW1]
    clear hW1
    refine (HI.out _).mono ?_
    rintro e w2 ⟨rfl, hb2⟩
    have y7 := (bcell hb2 _ 7 hg).trans x7
    have hb3 := hb0.trans (hb2.mono hb0.size)
    clear hb2 hb0 x7
    go_wp2
    go_ret
    exact ⟨by rw [HR.out]; rfl, hb3⟩

end Go.Proofs.YtbgilplaefdhbaaDoor
