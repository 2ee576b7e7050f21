/-
  What is proved: the contract of the document's own Parse of a rate, and the walk of the statement RateText: the call returns true. Conditions: the table of powers of ten reads as the library lays it.
-/
import Derived.Test.YthdjpkpkkdnofabDoorRefRead0
import Derived.Test.YthdjpkpkkdnofabDoorRefRead1
import Derived.Test.YthdjpkpkkdnofabDoorRefTell
namespace Go.Proofs.YthdjpkpkkdnofabDoor
open Go Go.RowKit Go.Sort Go.Lib Go.Proofs
set_option linter.unusedVariables false

set_option maxRecDepth 100000 in
theorem refParse_any (s : ByteArray) (hs : s.size ≤ 4611686018427387904) (w : World) : Calls Tryd.prog 12 #[.string s] w fun e w' => e = .returned (.tuple #[.int .i64 (rateR s.data.toList).1, .int .i64 (rateR s.data.toList).2]) ∧ w = w' := by
  by_cases h0 : s.size = 0
  · have hl : s.data.toList = [] := List.eq_nil_of_length_eq_zero (by rw [size_len]; exact h0)
    obtain rfl : s = ⟨#[]⟩ := ba_eq hl
    rw [show rateR (ByteArray.mk #[]).data.toList = (0, 10) from rfl]
    clear hl h0
    go_enter Tryd.func12, Tryd.ntmps12
    go_wp2
    go_ret2
    exact ⟨rfl, rfl⟩
  · have h1 : 0 < s.size := by omega
    have hh : s.data.toList.head? = some s[0] := by rw [List.head?_eq_getElem?, get_len s 0 h1]
    have hne : s.data.toList ≠ [] := by intro e; rw [e] at hh; cases hh
    by_cases h45 : s[0].toNat = 45
    · refine refRead1 s hs h1 h45 ⟨rfl, fun _ => ?_, fun e => (by cases e), hne⟩ w
      rw [hh, UInt8.toNat_inj.1 (show s[0].toNat = (45 : UInt8).toNat by rw [h45]; rfl)]
    · refine refRead0 s hs h1 h45 ⟨rfl, fun e => (by cases e), fun _ => ?_, hne⟩ w
      intro e
      rw [hh] at e
      exact h45 (by rw [Option.some.inj e]; rfl)

theorem rateR_err (l : List UInt8) : 0 ≤ (rateR l).2 ∧ (rateR l).2 ≤ 22 := by
  unfold rateR rpEnd
  repeat' split
  all_goals simp
theorem rateText_len (r : Int) : (rateText r).length ≤ 100 := by
  unfold rateText
  split
  case isFalse => simp
  rename_i hr
  obtain ⟨h1, h2⟩ := rightB_iff.1 hr
  have hb : (rateBody r.natAbs).length ≤ 60 := by
    unfold rateBody fracText
    have d1 := decDigits_len (r.natAbs / 10000) (by omega)
    have d2 := decDigits_len (10000 + r.natAbs % 10000) (by omega)
    have d3 : (trimRightB ((decDigits (10000 + r.natAbs % 10000)).drop 1) 48).length ≤ ((decDigits (10000 + r.natAbs % 10000)).drop 1).length := by
      unfold trimRightB
      rw [List.length_reverse]
      exact Nat.le_trans (List.dropWhile_sublist _).length_le (Nat.le_of_eq (List.length_reverse))
    rw [List.length_drop] at d3
    generalize trimRightB ((decDigits (10000 + r.natAbs % 10000)).drop 1) 48 = q at d3 ⊢
    split <;> simp <;> omega
  split <;> simp <;> omega

/-- What the statement asks, of plain values. -/
theorem rt_text (r : Int) : ∃ TT : ByteArray, TT = ⟨(rateText r).toArray⟩ ∧ TT.size ≤ 100 := ⟨_, rfl, by rw [← size_len]; exact rateText_len r⟩

set_option maxHeartbeats 4000000 in
set_option maxRecDepth 100000 in
theorem walkRateText (r : Int) (s : ByteArray) (w : World) (w0 : (Lit.int .i64 r).wf = true) (w1 : s.size ≤ maxLen) (htab : TabIs Tryd.prog w "internal/strconv.uint64pow10" .u64 pow10Tab) :
    Calls Tryd.prog 4 #[.int .i64 r, .string s] w fun e w' => e = .returned (.bool true) ∧ Below w.heap.size w w' := by
  unfold maxLen at w1
  have HW := Lib.hid (awake2 w htab)
  have hT := Lib.hid (tabBelow_of_tabIs htab)
  by_cases h3 : 3000 < s.size
  · go_enter Tryd.func4, Tryd.ntmps4
    go_wp2_with fail
    refine (HW.out).mono ?_
    rintro e w1 ⟨rfl, hb1⟩
    go_wp2
    go_ret
    exact ⟨rfl, hb1⟩
  have hs : s.size ≤ 4611686018427387904 := by omega
  obtain ⟨TT, hTT, hTs⟩ := rt_text r
  have k1 := rtell_any r
  have k2 := rtext2_any r
  have k3 := rateParse_any s hs
  have k4 := refParse_any s hs
  have k5 := rateParse_any TT (by omega)
  rw [← hTT] at k1 k2
  obtain ⟨E1, E2⟩ := rateR_err s.data.toList
  have hback : (rateR s.data.toList).2 = 0 → (⟨(rateText (rateR s.data.toList).1).toArray⟩ : ByteArray) = s := by
    intro h0
    have := told_parse s.data.toList (rateR s.data.toList).1 (by rw [← h0])
    rw [this]
  have k6 := rtell_any (rateR s.data.toList).1
  have hTl : TT.data.toList = rateText r := by rw [hTT]
  rw [hTl] at k5
  generalize (rateR s.data.toList).1 = X at k3 k4 k6 hback
  generalize (rateR s.data.toList).2 = E at k3 k4 hback E1 E2
  have H1 := Lib.hid k1
  have H2 := Lib.hid k2
  have H3 := Lib.hid k3
  have H4 := Lib.hid k4
  by_cases hr : rightB r = true
  case neg =>
    simp only [Bool.not_eq_true] at hr
    have ht0 : rateText r = [] := by simp [rateText, hr]
    obtain rfl : TT = ⟨#[]⟩ := by rw [hTT, ht0]
    rw [ht0, show rateR [] = (0, 10) from rfl] at k5
    have H5 := Lib.hid k5
    clear k1 k2 k3 k4 k5 hTT hTl ht0 hTs
    by_cases hE : E = 0
    · subst hE
      rw [hback rfl] at k6
      have H6 := Lib.hid k6
      clear k6 hback
      go_enter Tryd.func4, Tryd.ntmps4
      go_wp2_with fail
      refine (HW.out).mono ?_
      rintro e v1 ⟨rfl, hb1⟩
      go_wp2_with fail
      refine (H1.out _ (hT.out _ hb1)).mono ?_
      rintro e v2 ⟨rfl, hb2⟩
      have hb12 := hb1.trans (hb2.mono hb1.size)
      go_wp2_with fail
      refine (H3.out _).mono ?_
      rintro e v3 ⟨rfl, hb3⟩
      have hb13 := hb12.trans (hb3.mono hb12.size)
      go_wp2_with fail
      refine (H4.out _).mono ?_
      rintro e v' ⟨rfl, rfl⟩
      go_wp2_with fail
      refine (H2.out _).mono ?_
      rintro e v4 ⟨rfl, hb4⟩
      have hb14 := hb13.trans (hb4.mono hb13.size)
      go_wp2_with fail
      refine (H6.out _ (hT.out _ hb14)).mono ?_
      rintro e v5 ⟨rfl, hb5⟩
      have hb15 := hb14.trans (hb5.mono hb14.size)
      go_wp2_with fail
      refine (H5.out _).mono ?_
      rintro e v6 ⟨rfl, hb6⟩
      have hb16 := hb15.trans (hb6.mono hb15.size)
      go_wp2_with fail
      refine (rright_any _ _).mono ?_
      rintro e v' ⟨rfl, rfl⟩
      go_wp2
      go_ret
      exact ⟨rfl, hb16⟩
    · have hEb : (E == 0) = false := beq_eq_false_iff_ne.2 hE
      clear k6 hback
      go_enter Tryd.func4, Tryd.ntmps4
      go_wp2_with fail
      refine (HW.out).mono ?_
      rintro e v1 ⟨rfl, hb1⟩
      go_wp2_with fail
      refine (H1.out _ (hT.out _ hb1)).mono ?_
      rintro e v2 ⟨rfl, hb2⟩
      have hb12 := hb1.trans (hb2.mono hb1.size)
      go_wp2_with fail
      refine (H3.out _).mono ?_
      rintro e v3 ⟨rfl, hb3⟩
      have hb13 := hb12.trans (hb3.mono hb12.size)
      go_wp2_with fail
      refine (H4.out _).mono ?_
      rintro e v' ⟨rfl, rfl⟩
      go_wp2_with fail
      refine (H2.out _).mono ?_
      rintro e v4 ⟨rfl, hb4⟩
      have hb14 := hb13.trans (hb4.mono hb13.size)
      go_wp2_with fail
      refine (H5.out _).mono ?_
      rintro e v6 ⟨rfl, hb6⟩
      have hb16 := hb14.trans (hb6.mono hb14.size)
      go_wp2_with fail
      refine (rright_any _ _).mono ?_
      rintro e v' ⟨rfl, rfl⟩
      go_wp2
      go_ret
      exact ⟨rfl, hb16⟩
  rw [parse_told r hr] at k5
  have H5 := Lib.hid k5
  clear k1 k2 k3 k4 k5 hTT hTl
  by_cases hE : E = 0
  · subst hE
    rw [hback rfl] at k6
    have H6 := Lib.hid k6
    clear k6 hback
    go_enter Tryd.func4, Tryd.ntmps4
    go_wp2_with fail
    refine (HW.out).mono ?_
    rintro e v1 ⟨rfl, hb1⟩
    go_wp2_with fail
    refine (H1.out _ (hT.out _ hb1)).mono ?_
    rintro e v2 ⟨rfl, hb2⟩
    have hb12 := hb1.trans (hb2.mono hb1.size)
    go_wp2_with fail
    refine (H3.out _).mono ?_
    rintro e v3 ⟨rfl, hb3⟩
    have hb13 := hb12.trans (hb3.mono hb12.size)
    go_wp2_with fail
    refine (H4.out _).mono ?_
    rintro e v' ⟨rfl, rfl⟩
    go_wp2_with fail
    refine (H2.out _).mono ?_
    rintro e v4 ⟨rfl, hb4⟩
    have hb14 := hb13.trans (hb4.mono hb13.size)
    go_wp2_with fail
    refine (H6.out _ (hT.out _ hb14)).mono ?_
    rintro e v5 ⟨rfl, hb5⟩
    have hb15 := hb14.trans (hb5.mono hb14.size)
    go_wp2_with fail
    refine (H5.out _).mono ?_
    rintro e v6 ⟨rfl, hb6⟩
    have hb16 := hb15.trans (hb6.mono hb15.size)
    go_wp2_with fail
    refine (rright_any _ _).mono ?_
    rintro e v' ⟨rfl, rfl⟩
    go_wp2
    go_ret
    exact ⟨rfl, hb16⟩
  · have hEb : (E == 0) = false := beq_eq_false_iff_ne.2 hE
    clear k6 hback
    go_enter Tryd.func4, Tryd.ntmps4
    go_wp2_with fail
    refine (HW.out).mono ?_
    rintro e v1 ⟨rfl, hb1⟩
    go_wp2_with fail
    refine (H1.out _ (hT.out _ hb1)).mono ?_
    rintro e v2 ⟨rfl, hb2⟩
    have hb12 := hb1.trans (hb2.mono hb1.size)
    go_wp2_with fail
    refine (H3.out _).mono ?_
    rintro e v3 ⟨rfl, hb3⟩
    have hb13 := hb12.trans (hb3.mono hb12.size)
    go_wp2_with fail
    refine (H4.out _).mono ?_
    rintro e v' ⟨rfl, rfl⟩
    go_wp2_with fail
    refine (H2.out _).mono ?_
    rintro e v4 ⟨rfl, hb4⟩
    have hb14 := hb13.trans (hb4.mono hb13.size)
    go_wp2_with fail
    refine (H5.out _).mono ?_
    rintro e v6 ⟨rfl, hb6⟩
    have hb16 := hb14.trans (hb6.mono hb14.size)
    go_wp2_with fail
    refine (rright_any _ _).mono ?_
    rintro e v' ⟨rfl, rfl⟩
    go_wp2
    go_ret
    exact ⟨rfl, hb16⟩

end Go.Proofs.YthdjpkpkkdnofabDoor
