/-
  What is proved: the walk of WeekTexts. Conditions: the variable ErrRange holds an error, the table of powers of ten reads as the library lays it.
-/
import Derived.Test.YtbgilplaefdhbaaDoorWeekParsesWalk
import Derived.Deep.DeepCutAuto
namespace Go.Proofs.YtbgilplaefdhbaaDoor
open Go Go.RowKit Go.Lib Go.Proofs
set_option linter.unusedVariables false

theorem chk_nil (q : Nat → Int) : chk q [] = if chkW q = 0 then 0 else 2 := by
  by_cases h : chkW q = 0
  · rw [if_pos h, chk_fr h (by simp)]; rfl
  · unfold chk; rw [if_neg h, if_neg h]

set_option maxHeartbeats 4000000 in
set_option maxRecDepth 100000 in
theorem walkWeekTexts (q : Nat → Int) (w : World) (hE : Sent w ∧ Tab w) :
    Calls Tryd.prog 3 #[.agg #[.int .i64 (q 0), .int .i64 (q 1), .int .i64 (q 2), .int .i64 (q 3), .int .i64 (q 4), .int .i64 (q 5), .int .i64 (q 6)]] w fun e w' => e = .returned (.bool true) ∧ Below w.heap.size w w' := by
  obtain ⟨W1, hW1⟩ : ∃ W1, W1 = w.alloc (.cells #[.int .i64 (q 0), .int .i64 (q 1), .int .i64 (q 2), .int .i64 (q 3), .int .i64 (q 4), .int .i64 (q 5), .int .i64 (q 6)] 23) := ⟨_, rfl⟩
  have hb0 : Below w.heap.size w W1 := by rw [hW1]; exact (Below.refl w.heap.size w).alloc (Nat.le_refl _) _
  have hx : ∀ k, k < 7 → W1.cell? ⟨w.heap.size, k, none⟩ = some (.int .i64 (q k)) := fun k hk => by rw [hW1]; exact box7 q w 23 k hk
  have HT := Lib.hid (tabBelow_of_tabIs hE.2)
  have HS := Lib.hid (fun W (hb : Below w.heap.size w W) => hE.1.below (Nat.le_refl _) hb)
  have HW := Lib.hid awake_any
  have HC := Lib.hid (fun W => rChk_any q [] none 0 W (.inl rfl))
  have hc := chk_nil q
  obtain ⟨a0, a1, a2, a3, a4, a5, a6⟩ := seven hx
  clear hx hE
  by_cases h1 : chkW q = 0
  · rw [if_pos h1] at hc
    rw [hc] at HC
    have HQ := chkW_bd h1
    have hbk := txtK_back HQ
    have hlen := txtK_len HQ 7 (by omega)
    have HTx := Lib.hid (fun W hT => Text_yes q h1 W hT)
    have HR := Lib.hid (fun W => rText_any q HQ W)
    obtain ⟨R, hR⟩ : ∃ R : ByteArray, R = ⟨(txtK q 7).toArray⟩ := ⟨_, rfl⟩
    have hRd : R.data.toList = txtK q 7 := by rw [hR]
    have hRs : R.size ≤ 35 := by rw [hR]; show (txtK q 7).toArray.size ≤ 35; rw [List.size_toArray]; omega
    have HP := Lib.hid (fun W hS => Parse_any R (by omega) W hS)
    rw [hRd] at HP
    unfold PrsPost at HP
    rw [hbk.1, hbk.2 0 (by omega), hbk.2 1 (by omega), hbk.2 2 (by omega), hbk.2 3 (by omega), hbk.2 4 (by omega), hbk.2 5 (by omega), hbk.2 6 (by omega)] at HP
    rw [← hR] at HTx HR
    have hq := eqlSelf (q 0) (q 1) (q 2) (q 3) (q 4) (q 5) (q 6)
    clear hR hRd hbk hlen HQ h1 hc
    go_enter Tryd.func3, Tryd.ntmps3
    go_wp2_with fail
    rw [← hW1]
    clear hW1
    refine (HTx.out _ (HT.out _ hb0)).mono ?_
    rintro e w2 ⟨rfl, hb2⟩
    replace a0 := stay hb2 a0
    replace a1 := stay hb2 a1
    replace a2 := stay hb2 a2
    replace a3 := stay hb2 a3
    replace a4 := stay hb2 a4
    replace a5 := stay hb2 a5
    replace a6 := stay hb2 a6
    have hb3 := hb0.trans (hb2.mono hb0.size)
    go_wp2_with fail
    refine (HC.out _).mono ?_
    rintro e w3 ⟨rfl, hb4⟩
    replace a0 := stay hb4 a0
    replace a1 := stay hb4 a1
    replace a2 := stay hb4 a2
    replace a3 := stay hb4 a3
    replace a4 := stay hb4 a4
    replace a5 := stay hb4 a5
    replace a6 := stay hb4 a6
    have hb5 := hb3.trans (hb4.mono hb3.size)
    go_wp2_with fail
    refine (HP.out _ (HS.out _ hb5)).mono ?_
    rintro e w4 ⟨rfl, hb6⟩
    replace a0 := stay hb6 a0
    replace a1 := stay hb6 a1
    replace a2 := stay hb6 a2
    replace a3 := stay hb6 a3
    replace a4 := stay hb6 a4
    replace a5 := stay hb6 a5
    replace a6 := stay hb6 a6
    have hb7 := hb5.trans (hb6.mono hb5.size)
    have n2 := new7v w4 23 (.int .i64 (q 0)) (.int .i64 (q 1)) (.int .i64 (q 2)) (.int .i64 (q 3)) (.int .i64 (q 4)) (.int .i64 (q 5)) (.int .i64 (q 6))
    obtain ⟨W5, hW5⟩ : ∃ W5, W5 = w4.alloc (.cells #[.int .i64 (q 0), .int .i64 (q 1), .int .i64 (q 2), .int .i64 (q 3), .int .i64 (q 4), .int .i64 (q 5), .int .i64 (q 6)] 23) := ⟨_, rfl⟩
    have hb8 : Below w4.heap.size w4 W5 := by rw [hW5]; exact (Below.refl _ _).alloc (Nat.le_refl _) _
    rw [← hW5] at n2
    replace a0 := stay hb8 a0
    replace a1 := stay hb8 a1
    replace a2 := stay hb8 a2
    replace a3 := stay hb8 a3
    replace a4 := stay hb8 a4
    replace a5 := stay hb8 a5
    replace a6 := stay hb8 a6
    have hb9 := hb7.trans (hb8.mono hb7.size)
    obtain ⟨c0, c1, c2, c3, c4, c5, c6⟩ := n2
    go_upto_region 5 with fail
    rw [← hW5]
    clear hW5
    go_wp2_with fail
    refine (HR.out _).mono ?_
    rintro e w6 ⟨rfl, hba⟩
    replace a0 := stay hba a0
    replace a1 := stay hba a1
    replace a2 := stay hba a2
    replace a3 := stay hba a3
    replace a4 := stay hba a4
    replace a5 := stay hba a5
    replace a6 := stay hba a6
    replace c0 := stay hba c0
    replace c1 := stay hba c1
    replace c2 := stay hba c2
    replace c3 := stay hba c3
    replace c4 := stay hba c4
    replace c5 := stay hba c5
    replace c6 := stay hba c6
    have hbb := hb9.trans (hba.mono hb9.size)
    go_wp2_with fail
    refine (HW.out _).mono ?_
    rintro e w7 ⟨rfl, hbc⟩
    go_wp2
    go_ret
    exact ⟨rfl, hbb.trans (hbc.mono hbb.size)⟩
  · rw [if_neg h1] at hc
    rw [hc] at HC
    have HTx := Lib.hid (fun W => Text_no q h1 W)
    clear h1 hc HS HT
    go_enter Tryd.func3, Tryd.ntmps3
    go_wp2_with fail
    rw [← hW1]
    clear hW1
    refine (HTx.out _).mono ?_
    rintro e w2 ⟨rfl, hb2⟩
    replace a0 := stay hb2 a0
    replace a1 := stay hb2 a1
    replace a2 := stay hb2 a2
    replace a3 := stay hb2 a3
    replace a4 := stay hb2 a4
    replace a5 := stay hb2 a5
    replace a6 := stay hb2 a6
    have hb3 := hb0.trans (hb2.mono hb0.size)
    go_wp2_with fail
    refine (HC.out _).mono ?_
    rintro e w3 ⟨rfl, hb4⟩
    have hb5 := hb3.trans (hb4.mono hb3.size)
    go_wp2_with fail
    refine (HW.out _).mono ?_
    rintro e w5 ⟨rfl, hb8⟩
    go_wp2
    go_ret
    exact ⟨rfl, hb5.trans (hb8.mono hb5.size)⟩

end Go.Proofs.YtbgilplaefdhbaaDoor
