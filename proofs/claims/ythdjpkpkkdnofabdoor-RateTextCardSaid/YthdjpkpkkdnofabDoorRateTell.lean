/-
  What is proved: the contract of rate.Text: the text of any rate that is right; nothing of others. And the document's examples of rate ('awake' of the statements of rate returns true). Conditions: the table of powers of ten reads as the library lays it.
-/
import Derived.Test.YthdjpkpkkdnofabDoorRateParse
import Derived.Lib.SmallJoins
namespace Go.Proofs.YthdjpkpkkdnofabDoor
open Go Go.RowKit Go.Sort Go.Lib Go.Proofs

theorem ba_eq {a : ByteArray} {l : List UInt8} (h : a.data.toList = l) : a = ⟨l.toArray⟩ := by
  obtain ⟨⟨x⟩⟩ := a
  simp at h
  rw [h]
theorem ba_app (a b : ByteArray) : (a ++ b).data.toList = a.data.toList ++ b.data.toList := Go.Joins.data_append a b

/-- The digits behind the point, with the point. -/
def fracText (f : Nat) : List UInt8 := if f = 0 then [] else 46 :: trimRightB ((decDigits (10000 + f)).drop 1) 48
/-- A rate's text. -/
def rateBody (n : Nat) : List UInt8 := decDigits (n / 10000) ++ fracText (n % 10000) ++ [37]
def rateText (r : Int) : List UInt8 := if rightB r = true then (if r < 0 then 45 :: rateBody r.natAbs else rateBody r.natAbs) else []

theorem fmt_any (z : Int) (h0 : 0 ≤ z) (h1 : z ≤ 9223372036854775807) (w : World) (htab : TabIs Tryd.prog w "internal/strconv.uint64pow10" .u64 pow10Tab) :
    Calls Tryd.prog 19 #[.int .i64 z, .int .i64 10] w fun e w' => ∃ d : ByteArray, e = .returned (.string d) ∧ Hid (d.data.toList = decDigits z.toNat) ∧ 1 ≤ d.size ∧ d.size ≤ 20 ∧ Below w.heap.size w w' := by
  refine (Tryd.strconv_FormatInt_10 z (by omega) h1 w htab).mono ?_
  rintro e w' ⟨rfl, k, os, rfl⟩
  have hi : itoa z = decDigits z.toNat := by unfold itoa; rw [if_neg (by omega)]
  obtain ⟨a, r, e, _⟩ : ∃ a r, decDigits z.toNat = a :: r ∧ True := by
    rw [dd_cons]
    split
    · exact ⟨_, _, rfl, trivial⟩
    · cases h : decDigits (z.toNat / 10) with
      | nil => exact ⟨_, _, rfl, trivial⟩
      | cons x t => exact ⟨x, t ++ _, rfl, trivial⟩
  have hl := decDigits_len z.toNat (by omega)
  refine ⟨_, rfl, Lib.hid hi, ?_, ?_, below_grow _ _ (Nat.le_refl _) _ _⟩
  · rw [← size_len]; show 1 ≤ (itoa z).length; rw [hi, e]; simp
  · rw [← size_len]; show (itoa z).length ≤ 20; rw [hi]; exact hl

theorem trim_any (d : ByteArray) (hs : d.size ≤ 20) (w : World) : Calls Tryd.prog 20 #[.string d, .string ⟨#[48]⟩] w fun e w' => ∃ t : ByteArray, e = .returned (.string t) ∧ Hid (t.data.toList = trimRightB d.data.toList 48) ∧ t.size ≤ 20 ∧ w = w' := by
  refine (Tryd.strings_TrimRight_one d 48 (by decide) w (by omega)).mono ?_
  rintro e w' ⟨rfl, rfl⟩
  refine ⟨_, rfl, Lib.hid rfl, ?_, rfl⟩
  rw [← size_len]
  show (trimRightB d.data.toList 48).length ≤ 20
  have h : (trimRightB d.data.toList 48).length ≤ d.data.toList.length := by
    unfold trimRightB
    rw [List.length_reverse]
    exact Nat.le_trans (List.dropWhile_sublist _).length_le (Nat.le_of_eq (List.length_reverse))
  rw [size_len] at h
  omega

set_option maxHeartbeats 2000000 in
set_option maxRecDepth 100000 in
theorem rtell_pos (n : Nat) (hn : n ≤ 1000000000) (w : World) (htab : TabIs Tryd.prog w "internal/strconv.uint64pow10" .u64 pow10Tab) :
    Calls Tryd.prog 10 #[.int .i64 n] w fun e w' => e = .returned (.string ⟨(rateBody n).toArray⟩) ∧ Below w.heap.size w w' := by
  have hT := Lib.hid (tabBelow_of_tabIs htab)
  have hr : rightB n = true := rightB_yes (by omega) (by omega)
  have hn0 : ¬ ((n : Int) < 0) := by omega
  go_enter Tryd.func10, Tryd.ntmps10
  go_wp2_with fail
  refine (right_any _ _).mono ?_
  rintro e w' ⟨rfl, rfl⟩
  go_wp2_with fail
  refine (fmt_any _ (by omega) (by omega) _ htab).mono ?_
  rintro e w1 ⟨d, rfl, hd, hd1, hd2, hb1⟩
  by_cases hf : n % 10000 = 0
  · have hf2 : ((n : Int) % 10000 != 0) = false := by rw [show (n : Int) % 10000 = 0 by omega]; rfl
    go_wp2
    go_ret
    refine ⟨?_, hb1⟩
    refine congrArg (fun x => Ending.returned (.string x)) (ba_eq ?_)
    rw [ba_app, ba_app, hd.out, show ((n : Int) / 10000).toNat = n / 10000 by omega]
    unfold rateBody fracText
    rw [if_pos hf]
    simp
  · have hf2 : ((n : Int) % 10000 != 0) = true := by rw [bne_iff_ne]; omega
    go_wp2_with fail
    refine (fmt_any _ (by omega) (by omega) _ (hT.out _ hb1)).mono ?_
    rintro e w2 ⟨d2, rfl, hd3, hd4, hd5, hb2⟩
    have hb12 := hb1.trans (hb2.mono hb1.size)
    obtain ⟨f, hf3⟩ : ∃ f, d2.extract 1 d2.size = f := ⟨_, rfl⟩
    have hfl : f.data.toList = d2.data.toList.drop 1 := by rw [← hf3]; exact Lib.extract_to_end _ _
    have hfs : f.size ≤ 20 := by rw [← size_len, hfl, List.length_drop, size_len]; omega
    have HFL := Lib.hid hfl
    clear hfl
    have hd4' : (1 : Int) ≤ (d2.size : Int) := by omega
    go_wp2_with fail
    refine (trim_any f hfs _).mono ?_
    rintro e w' ⟨t, rfl, ht, hts, rfl⟩
    go_wp2
    go_ret
    refine ⟨?_, hb12⟩
    refine congrArg (fun x => Ending.returned (.string x)) (ba_eq ?_)
    rw [ba_app, ba_app, ba_app, ba_app, hd.out, ht.out, HFL.out, hd3.out, show ((n : Int) / 10000).toNat = n / 10000 by omega, show (10000 + (n : Int) % 10000).toNat = 10000 + n % 10000 by omega]
    unfold rateBody fracText
    rw [if_neg hf]
    simp

set_option maxHeartbeats 2000000 in
set_option maxRecDepth 100000 in
theorem rtell_neg (n : Nat) (h1 : 1 ≤ n) (hn : n ≤ 1000000000) (w : World) (htab : TabIs Tryd.prog w "internal/strconv.uint64pow10" .u64 pow10Tab) :
    Calls Tryd.prog 10 #[.int .i64 (-(n : Int))] w fun e w' => e = .returned (.string ⟨(45 :: rateBody n).toArray⟩) ∧ Below w.heap.size w w' := by
  have hT := Lib.hid (tabBelow_of_tabIs htab)
  have hr : rightB (-(n : Int)) = true := rightB_yes (by omega) (by omega)
  have hn0 : -(n : Int) < 0 := by omega
  go_enter Tryd.func10, Tryd.ntmps10
  go_wp2_with fail
  refine (right_any _ _).mono ?_
  rintro e w' ⟨rfl, rfl⟩
  go_wp2_with fail
  refine (fmt_any _ (by omega) (by omega) _ htab).mono ?_
  rintro e w1 ⟨d, rfl, hd, hd1, hd2, hb1⟩
  by_cases hf : n % 10000 = 0
  · have hf2 : ((n : Int) % 10000 != 0) = false := by rw [show (n : Int) % 10000 = 0 by omega]; rfl
    go_wp2
    go_ret
    refine ⟨?_, hb1⟩
    refine congrArg (fun x => Ending.returned (.string x)) (ba_eq ?_)
    rw [ba_app, ba_app, hd.out, show ((n : Int) / 10000).toNat = n / 10000 by omega]
    unfold rateBody fracText
    rw [if_pos hf]
    simp
  · have hf2 : ((n : Int) % 10000 != 0) = true := by rw [bne_iff_ne]; omega
    go_wp2_with fail
    refine (fmt_any _ (by omega) (by omega) _ (hT.out _ hb1)).mono ?_
    rintro e w2 ⟨d2, rfl, hd3, hd4, hd5, hb2⟩
    have hb12 := hb1.trans (hb2.mono hb1.size)
    obtain ⟨f, hf3⟩ : ∃ f, d2.extract 1 d2.size = f := ⟨_, rfl⟩
    have hfl : f.data.toList = d2.data.toList.drop 1 := by rw [← hf3]; exact Lib.extract_to_end _ _
    have hfs : f.size ≤ 20 := by rw [← size_len, hfl, List.length_drop, size_len]; omega
    have HFL := Lib.hid hfl
    clear hfl
    have hd4' : (1 : Int) ≤ (d2.size : Int) := by omega
    go_wp2_with fail
    refine (trim_any f hfs _).mono ?_
    rintro e w' ⟨t, rfl, ht, hts, rfl⟩
    go_wp2
    go_ret
    refine ⟨?_, hb12⟩
    refine congrArg (fun x => Ending.returned (.string x)) (ba_eq ?_)
    rw [ba_app, ba_app, ba_app, ba_app, hd.out, ht.out, HFL.out, hd3.out, show ((n : Int) / 10000).toNat = n / 10000 by omega, show (10000 + (n : Int) % 10000).toNat = 10000 + n % 10000 by omega]
    unfold rateBody fracText
    rw [if_neg hf]
    simp

theorem rtell_any (r : Int) (w : World) (htab : TabIs Tryd.prog w "internal/strconv.uint64pow10" .u64 pow10Tab) :
    Calls Tryd.prog 10 #[.int .i64 r] w fun e w' => e = .returned (.string ⟨(rateText r).toArray⟩) ∧ Below w.heap.size w w' := by
  by_cases hf : rightB r = true
  · obtain ⟨h1, h2⟩ := rightB_iff.1 hf
    by_cases hc : r < 0
    · rw [show rateText r = 45 :: rateBody r.natAbs by simp [rateText, hf, hc]]
      have := rtell_neg r.natAbs (by omega) (by omega) w htab
      rwa [show -(r.natAbs : Int) = r by omega] at this
    · rw [show rateText r = rateBody r.natAbs by simp [rateText, hf, hc]]
      have := rtell_pos r.natAbs (by omega) w htab
      rwa [show (r.natAbs : Int) = r by omega] at this
  · simp only [Bool.not_eq_true] at hf
    rw [show rateText r = [] by simp [rateText, hf]]
    go_enter Tryd.func10, Tryd.ntmps10
    go_wp2_with fail
    refine (right_any _ _).mono ?_
    rintro e w' ⟨rfl, rfl⟩
    go_wp2
    go_ret
    exact ⟨rfl, Below.refl _ _⟩

theorem aw_of (w : World) : Calls Tryd.prog 15 #[.int .i64 1001, .int .i64 125000, .int .i64 1] w fun e w' => e = .returned (.tuple #[.int .i64 125, .int .i64 0]) ∧ Below w.heap.size w w' := by
  have h := of_any 1001 125000 1 w
  rwa [show ofVE 1001 125000 1 = (125, 0) by decide +kernel] at h
theorem aw_part (w : World) : Calls Tryd.prog 9 #[.int .i64 (-5), .int .i64 1, .int .i64 2, .int .i64 2] w fun e w' => e = .returned (.tuple #[.int .i64 (-2), .int .i64 0]) ∧ Below w.heap.size w w' := by
  have h := part_any (-5) 1 2 2 (by omega) (by omega) (by omega) w
  rwa [show partVE (-5) 1 2 2 = (-2, 0) by decide +kernel] at h
theorem aw_parse (w : World) : Calls Tryd.prog 11 #[.string ⟨#[49, 50, 46, 53, 37]⟩] w fun e w' => e = .returned (.tuple #[.int .i64 125000, .int .i64 0]) ∧ Below w.heap.size w w' := by
  have h := rateParse_any ⟨#[49, 50, 46, 53, 37]⟩ (by decide) w
  rwa [show rateR (ByteArray.mk #[49, 50, 46, 53, 37]).data.toList = (125000, 0) by decide +kernel] at h
theorem aw_text (w : World) (htab : TabIs Tryd.prog w "internal/strconv.uint64pow10" .u64 pow10Tab) : Calls Tryd.prog 10 #[.int .i64 (-1)] w fun e w' => e = .returned (.string ⟨#[45, 48, 46, 48, 48, 48, 49, 37]⟩) ∧ Below w.heap.size w w' := by
  have h := rtell_any (-1) w htab
  rwa [show rateText (-1) = [45, 48, 46, 48, 48, 48, 49, 37] by decide +kernel] at h

set_option maxHeartbeats 1000000 in
set_option maxRecDepth 100000 in
theorem awake2 (w : World) (htab : TabIs Tryd.prog w "internal/strconv.uint64pow10" .u64 pow10Tab) : Calls Tryd.prog 7 #[] w fun e w' => e = .returned (.bool true) ∧ Below w.heap.size w w' := by
  have hT := Lib.hid (tabBelow_of_tabIs htab)
  go_enter Tryd.func7, Tryd.ntmps7
  go_wp2_with fail
  refine (aw_of _).mono ?_
  rintro e w1 ⟨rfl, hb1⟩
  go_wp2_with fail
  refine (aw_part _).mono ?_
  rintro e w2 ⟨rfl, hb2⟩
  have hb12 := hb1.trans (hb2.mono hb1.size)
  go_wp2_with fail
  refine (aw_parse _).mono ?_
  rintro e w3 ⟨rfl, hb3⟩
  have hb13 := hb12.trans (hb3.mono hb12.size)
  go_wp2_with fail
  refine (aw_text _ (hT.out _ hb13)).mono ?_
  rintro e w4 ⟨rfl, hb4⟩
  have hb14 := hb13.trans (hb4.mono hb13.size)
  go_wp2
  go_ret
  exact ⟨rfl, hb14⟩

end Go.Proofs.YthdjpkpkkdnofabDoor
