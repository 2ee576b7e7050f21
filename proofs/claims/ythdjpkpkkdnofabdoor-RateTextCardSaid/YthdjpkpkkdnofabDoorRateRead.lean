/-
  What is proved: the contracts of rate.isDigits, isWhole, isFraction, read, of strings.Cut at one byte, and of rate.Text: the text of any rate that is right; nothing of others. Conditions: the table of powers of ten reads as the library lays it; texts are shorter than 2^62 bytes.
-/
import Derived.Test.YthdjpkpkkdnofabDoorRate
import Derived.Lib.IndexBytes
import Derived.Lib.TrimByte
import Derived.Deep.QuietTactic
import Derived.BigQuiet
namespace Go.Proofs.YthdjpkpkkdnofabDoor
open Go Go.RowKit Go.Sort Go.Lib Go.Proofs

def isDig (b : UInt8) : Bool := decide (48 ≤ b.toNat) && decide (b.toNat ≤ 57)
def digB (l : List UInt8) : Bool := !l.isEmpty && l.all isDig

theorem digB_drop {d : ByteArray} {k : Nat} (hk : k < d.size) : (d.data.toList.drop k).all isDig = (isDig d[k] && (d.data.toList.drop (k + 1)).all isDig) := by
  rw [List.drop_eq_getElem_cons (by rw [size_len]; exact hk)]; rfl

set_option maxHeartbeats 1000000 in
theorem isDigits_any (d : ByteArray) (hs : d.size ≤ 4611686018427387904) (w : World) : Calls Tryd.prog 42 #[.string d] w fun e w' => e = .returned (.bool (digB d.data.toList)) ∧ w = w' := by
  obtain ⟨R, hR⟩ : ∃ R, R = digB d.data.toList := ⟨_, rfl⟩
  rw [← hR]
  by_cases h0 : d.size = 0
  · have hl : d.data.toList = [] := List.eq_nil_of_length_eq_zero (by rw [size_len]; exact h0)
    obtain rfl : R = false := by rw [hR, hl]; rfl
    obtain rfl : d = ⟨#[]⟩ := by
      obtain ⟨⟨l⟩⟩ := d
      simp at hl
      rw [hl]
    clear hR hl h0
    go_enter Tryd.func42, Tryd.ntmps42
    go_wp2
    go_loop [3] (fun i => i = .int .i64 0) (fun _ => 0)
    case atStart => rfl
    case round =>
      subst hrel
      go_wp2
      go_ret
      exact ⟨rfl, rfl⟩
  have HR : Hid (R = (d.data.toList.drop 0).all isDig) := Lib.hid (by
    rw [hR, List.drop_zero]; unfold digB
    have : d.data.toList.isEmpty = false := by
      cases h : d.data.toList with
      | nil => rw [← size_len, h] at h0; exact absurd rfl h0
      | cons a r => rfl
    rw [this]; rfl)
  have hne : (d.toList.isEmpty) = false := by
    rw [Lib.toList_data]
    cases h : d.data.toList with
    | nil => rw [← size_len, h] at h0; exact absurd rfl h0
    | cons a r => rfl
  have hne2 : (!d.toList.isEmpty) = true := by rw [hne]; rfl
  clear hR
  go_enter Tryd.func42, Tryd.ntmps42
  go_wp2
  go_loop [3] (fun i => ∃ k : Nat, k ≤ d.size ∧ i = .int .i64 k ∧ Hid (R = (d.data.toList.drop k).all isDig)) (fun i => d.size - (RowKit.intOf i).toNat)
  case atStart => exact ⟨0, Nat.zero_le _, rfl, HR⟩
  case round =>
    obtain ⟨k, hk, rfl, HK⟩ := hrel
    by_cases hlt : k < d.size
    · by_cases h48 : d[k].toNat < 48
      · obtain rfl : R = false := by rw [HK.out, digB_drop hlt]; simp [isDig]; omega
        go_wp2
        go_ret
        exact ⟨rfl, rfl⟩
      by_cases h57 : 57 < d[k].toNat
      · obtain rfl : R = false := by rw [HK.out, digB_drop hlt]; simp [isDig]; omega
        go_wp2
        go_ret
        exact ⟨rfl, rfl⟩
      have HN : Hid (R = (d.data.toList.drop (k + 1)).all isDig) := Lib.hid (by
        rw [HK.out, digB_drop hlt]
        have : isDig d[k] = true := by simp [isDig]; omega
        rw [this, Bool.true_and])
      go_wp2
      go_round
      case rel => exact ⟨k + 1, by omega, by go_num, HN⟩
      case measure => simp [RowKit.intOf]; omega
    · obtain rfl : R = true := by rw [HK.out, List.drop_eq_nil_of_le (by rw [size_len]; omega)]; rfl
      go_wp2
      go_ret
      exact ⟨rfl, rfl⟩

/-- Digits put behind a number; once beyond the limits it stays. -/
def readV : Int → List UInt8 → Int
  | r, [] => r
  | r, b :: t => if rightB r = true then readV (r * 10 + (b.toNat - 48)) t else r

theorem readV_stay (r : Int) (l : List UInt8) (h : rightB r = false) : readV r l = r := by
  cases l with
  | nil => rfl
  | cons b t => unfold readV; rw [if_neg (by rw [h]; simp)]

set_option maxHeartbeats 1000000 in
theorem read_any (r : Int) (r1 : -10000000009 ≤ r) (r2 : r ≤ 10000000009) (d : ByteArray) (hs : d.size ≤ 4611686018427387904) (hd : d.data.toList.all isDig = true) (w : World) : Calls Tryd.prog 26 #[.int .i64 r, .string d] w fun e w' => e = .returned (.int .i64 (readV r d.data.toList)) ∧ w = w' := by
  obtain ⟨R, hR⟩ : ∃ R, R = readV r d.data.toList := ⟨_, rfl⟩
  rw [← hR]
  have HD := Lib.hid hd
  have HR := Lib.hid hR
  clear hd hR
  go_enter Tryd.func26, Tryd.ntmps26
  go_wp2
  go_loop [0, 5] (fun a i => ∃ k : Nat, ∃ z : Int, k ≤ d.size ∧ i = .int .i64 k ∧ a = .int .i64 z ∧ -10000000009 ≤ z ∧ z ≤ 10000000009 ∧ Hid (readV z (d.data.toList.drop k) = R)) (fun _ i => d.size - (RowKit.intOf i).toNat)
  case atStart => exact ⟨0, r, Nat.zero_le _, rfl, rfl, r1, r2, Lib.hid HR.out.symm⟩
  case round =>
    obtain ⟨k, z, hk, rfl, rfl, z1, z2, HK⟩ := hrel
    by_cases hlt : k < d.size
    · by_cases hr : rightB z = true
      · obtain ⟨f1, f2⟩ := rightB_iff.1 hr
        have hdk : isDig d[k] = true := by
          have := List.all_eq_true.1 HD.out d[k] (by
            have := get_len d k hlt
            exact List.mem_of_getElem? this)
          exact this
        have h48 : 48 ≤ d[k].toNat := by simp [isDig] at hdk; omega
        have h57 : d[k].toNat ≤ 57 := by simp [isDig] at hdk; omega
        have HN : Hid (readV (z * 10 + ((d[k].toNat : Int) - 48)) (d.data.toList.drop (k + 1)) = R) := Lib.hid (by
          have e := List.drop_eq_getElem_cons (l := d.data.toList) (i := k) (by rw [size_len]; exact hlt)
          rw [← HK.out, e, readV, if_pos hr]; rfl)
        clear hdk
        go_wp2_with (first | (go_at_call 18; refine (right_any _ _).mono ?_; rintro e w' ⟨rfl, rfl⟩))
        go_round
        case rel => exact ⟨k + 1, z * 10 + ((d[k].toNat : Int) - 48), by omega, by go_num, rfl, by omega, by omega, HN⟩
        case measure => simp [RowKit.intOf]; omega
      · simp only [Bool.not_eq_true] at hr
        obtain rfl : R = z := by rw [← HK.out, readV_stay _ _ hr]
        go_wp2_with (first | (go_at_call 18; refine (right_any _ _).mono ?_; rintro e w' ⟨rfl, rfl⟩))
        go_ret
        exact ⟨rfl, rfl⟩
    · obtain rfl : R = z := by rw [← HK.out, List.drop_eq_nil_of_le (by rw [size_len]; omega)]; rfl
      go_wp2
      go_ret
      exact ⟨rfl, rfl⟩

/-- A number in tens without needless noughts. -/
def wholeB (l : List UInt8) : Bool := (l == [48]) || (digB l && !(l.head? == some 48))
/-- What may stand behind the point. -/
def fracB (l : List UInt8) : Bool := decide (l.length ≤ 4) && digB l && !(l.getLast? == some 48)

theorem digB_pos {d : ByteArray} (h : digB d.data.toList = true) : 0 < d.size := by
  rw [← size_len]
  cases hl : d.data.toList with
  | nil => rw [hl] at h; cases h
  | cons a r => simp

theorem str_eq_one (d : ByteArray) (b : UInt8) : (d.toList == [b]) = (d.data.toList == [b]) := by rw [Lib.toList_data]

set_option maxHeartbeats 1000000 in
theorem isWhole_any (d : ByteArray) (hs : d.size ≤ 4611686018427387904) (w : World) : Calls Tryd.prog 24 #[.string d] w fun e w' => e = .returned (.bool (wholeB d.data.toList)) ∧ w = w' := by
  have H := Lib.hid (isDigits_any d hs w)
  by_cases h0 : d.data.toList = [48]
  · obtain rfl : d = ⟨#[48]⟩ := by
      obtain ⟨⟨l⟩⟩ := d
      simp at h0
      rw [h0]
    rw [show wholeB (ByteArray.mk #[48]).data.toList = true from rfl]
    clear h0 H
    go_enter Tryd.func24, Tryd.ntmps24
    go_wp2
    go_ret
    exact ⟨rfl, rfl⟩
  · have h0' : (d.toList == [48]) = false := beq_eq_false_iff_ne.2 (by rw [Lib.toList_data]; exact h0)
    have hw : wholeB d.data.toList = (digB d.data.toList && !(d.data.toList.head? == some 48)) := by
      unfold wholeB; rw [beq_eq_false_iff_ne.2 h0, Bool.false_or]
    cases hd : digB d.data.toList with
    | false =>
      have H2 := H.out
      rw [hd] at H2
      rw [hw, hd, Bool.false_and]
      have H3 := Lib.hid H2
      clear H H2 hw hd h0
      go_enter Tryd.func24, Tryd.ntmps24
      go_wp2_with fail
      refine (H3.out).mono ?_
      rintro e w' ⟨rfl, rfl⟩
      go_wp2
      go_ret
      exact ⟨rfl, rfl⟩
    | true =>
      have hpos := digB_pos hd
      have H2 := H.out
      rw [hd] at H2
      have hh : d.data.toList.head? = some d[0] := by rw [List.head?_eq_getElem?, get_len d 0 hpos]
      rw [hw, hd, Bool.true_and, hh]
      have H3 := Lib.hid H2
      by_cases hz : d[0].toNat = 48
      · have hz2 : ((d[0].toNat : Int) != 48) = false := by rw [hz]; rfl
        have hz3 : d[0] = 48 := UInt8.toNat_inj.1 (by rw [hz]; rfl)
        rw [hz3]
        clear H H2 hw hd h0 hh hz3
        go_enter Tryd.func24, Tryd.ntmps24
        go_wp2_with fail
        refine (H3.out).mono ?_
        rintro e w' ⟨rfl, rfl⟩
        go_wp2
        go_ret
        exact ⟨rfl, rfl⟩
      · have hz2 : ((d[0].toNat : Int) != 48) = true := by rw [bne_iff_ne]; omega
        have hz3 : (some d[0] == some (48 : UInt8)) = false := beq_eq_false_iff_ne.2 (fun e => hz (by rw [Option.some.inj e]; rfl))
        rw [hz3]
        clear H H2 hw hd h0 hh hz3 hz
        go_enter Tryd.func24, Tryd.ntmps24
        go_wp2_with fail
        refine (H3.out).mono ?_
        rintro e w' ⟨rfl, rfl⟩
        go_wp2
        go_ret
        exact ⟨rfl, rfl⟩

set_option maxHeartbeats 1000000 in
theorem isFraction_any (d : ByteArray) (hs : d.size ≤ 4611686018427387904) (w : World) : Calls Tryd.prog 25 #[.string d] w fun e w' => e = .returned (.bool (fracB d.data.toList)) ∧ w = w' := by
  have H := Lib.hid (isDigits_any d hs w)
  by_cases h4 : d.size ≤ 4
  · have hw : fracB d.data.toList = (digB d.data.toList && !(d.data.toList.getLast? == some 48)) := by
      unfold fracB; rw [size_len, decide_eq_true h4, Bool.true_and]
    cases hd : digB d.data.toList with
    | false =>
      have H2 := H.out
      rw [hd] at H2
      rw [hw, hd, Bool.false_and]
      have H3 := Lib.hid H2
      clear H H2 hw hd
      go_enter Tryd.func25, Tryd.ntmps25
      go_wp2_with fail
      refine (H3.out).mono ?_
      rintro e w' ⟨rfl, rfl⟩
      go_wp2
      go_ret
      exact ⟨rfl, rfl⟩
    | true =>
      have hpos := digB_pos hd
      obtain ⟨p, hp⟩ : ∃ p, d.size = p + 1 := ⟨d.size - 1, by omega⟩
      have H2 := H.out
      rw [hd] at H2
      have hh : d.data.toList.getLast? = some d[p] := by rw [List.getLast?_eq_getElem?, size_len, show d.size - 1 = p by omega, get_len d p (by omega)]
      rw [hw, hd, Bool.true_and, hh]
      have H3 := Lib.hid H2
      by_cases hz : d[p].toNat = 48
      · have hz2 : ((d[p].toNat : Int) != 48) = false := by rw [hz]; rfl
        have hz3 : (some d[p] == some (48 : UInt8)) = true := beq_iff_eq.2 (congrArg some (UInt8.toNat_inj.1 (by rw [hz]; rfl)))
        rw [hz3]
        clear H H2 hw hd hh hz3
        go_enter Tryd.func25, Tryd.ntmps25
        go_wp2_with fail
        refine (H3.out).mono ?_
        rintro e w' ⟨rfl, rfl⟩
        go_wp2
        go_ret
        exact ⟨rfl, rfl⟩
      · have hz2 : ((d[p].toNat : Int) != 48) = true := by rw [bne_iff_ne]; omega
        have hz3 : (some d[p] == some (48 : UInt8)) = false := beq_eq_false_iff_ne.2 (fun e => hz (by rw [Option.some.inj e]; rfl))
        rw [hz3]
        clear H H2 hw hd hh hz3 hz
        go_enter Tryd.func25, Tryd.ntmps25
        go_wp2_with fail
        refine (H3.out).mono ?_
        rintro e w' ⟨rfl, rfl⟩
        go_wp2
        go_ret
        exact ⟨rfl, rfl⟩
  · rw [show fracB d.data.toList = false by unfold fracB; rw [size_len, decide_eq_false h4]; rfl]
    go_enter Tryd.func25, Tryd.ntmps25
    go_wp2
    go_ret
    exact ⟨rfl, rfl⟩

/-- What stands ahead of the first point, and behind it. -/
def cutDot : List UInt8 → List UInt8 × List UInt8 × Bool
  | [] => ([], [], false)
  | b :: r => if b = 46 then ([], r, true) else (b :: (cutDot r).1, (cutDot r).2.1, (cutDot r).2.2)

theorem cutDot_index : ∀ (l : List UInt8), (indexByte l 46 = -1 ∧ cutDot l = (l, [], false)) ∨ (0 ≤ indexByte l 46 ∧ indexByte l 46 < l.length ∧ cutDot l = (l.take (indexByte l 46).toNat, l.drop ((indexByte l 46).toNat + 1), true))
  | [] => .inl ⟨rfl, rfl⟩
  | b :: r => by
    by_cases hb : b = 46
    · right
      have e : indexByte (b :: r) 46 = 0 := by unfold indexByte; rw [if_pos (beq_iff_eq.2 hb)]
      rw [e]
      refine ⟨by omega, by simp, ?_⟩
      unfold cutDot; rw [if_pos hb]; rfl
    · have e : indexByte (b :: r) 46 = if indexByte r 46 == -1 then -1 else indexByte r 46 + 1 := by
        rw [indexByte, if_neg (by simpa using hb)]
      rcases cutDot_index r with ⟨h1, h2⟩ | ⟨h1, h2, h3⟩
      · left
        rw [e, h1]
        refine ⟨rfl, ?_⟩
        unfold cutDot; rw [if_neg hb, h2]
      · right
        have hne : (indexByte r 46 == -1) = false := beq_eq_false_iff_ne.2 (by omega)
        rw [e, hne]
        simp only [Bool.false_eq_true, if_false]
        refine ⟨by omega, by rw [List.length_cons]; omega, ?_⟩
        rw [cutDot, if_neg hb, h3]
        obtain ⟨n, hn⟩ := Int.eq_ofNat_of_zero_le h1
        rw [hn, show ((n : Int) + 1).toNat = n + 1 by omega, Int.toNat_natCast]
        rfl

set_option maxHeartbeats 1000000 in
theorem cut_in (d : ByteArray) (hs : d.size ≤ 4611686018427387904) (w : World) : Calls Tryd.prog 41 #[.string d, .string ⟨#[46]⟩] w fun e w' => ∃ x y : ByteArray, e = .returned (.tuple #[.string x, .string y, .bool (cutDot d.data.toList).2.2]) ∧ Hid (x.data.toList = (cutDot d.data.toList).1 ∧ y.data.toList = (cutDot d.data.toList).2.1) ∧ Below w.heap.size w w' := by
  have HI := Tryd.stringslite_Index_one d 46 w
  rcases cutDot_index d.data.toList with ⟨h1, h2⟩ | ⟨h1, h2, h3⟩
  · rw [h1] at HI
    have H := Lib.hid HI
    have HC := Lib.hid h2
    rw [h2]
    clear HI h1 h2
    go_enter Tryd.func41, Tryd.ntmps41
    go_wp2_with fail
    refine (H.out).mono ?_
    rintro e w' ⟨rfl, rfl⟩
    go_wp2
    go_ret3
    exact ⟨d, ⟨#[]⟩, rfl, Lib.hid ⟨rfl, rfl⟩, Below.refl _ _⟩
  · obtain ⟨i, hi⟩ := Int.eq_ofNat_of_zero_le h1
    rw [hi] at HI h2
    rw [hi, Int.toNat_natCast] at h3
    rw [h3]
    have H := Lib.hid HI
    have hid : i < d.size := by rw [← size_len]; omega
    clear HI h1 h2 h3 hi
    have c1 : (0 : Int) ≤ (i : Int) := by omega
    have c2 : (i : Int) ≤ (d.size : Int) := by omega
    have c3 : (i : Int) + 1 ≤ (d.size : Int) := by omega
    go_enter Tryd.func41, Tryd.ntmps41
    go_wp2_with fail
    refine (H.out).mono ?_
    rintro e w' ⟨rfl, rfl⟩
    go_wp2
    go_quiet (fail)
    go_wp2
    go_ret3
    refine ⟨d.extract 0 i, d.extract (i + 1) d.size, rfl, Lib.hid ⟨?_, Lib.extract_to_end _ _⟩, below_drewN (Below.refl _ _) _⟩
    rw [Lib.extract_data]; simp

theorem cut_any (d : ByteArray) (hs : d.size ≤ 4611686018427387904) (w : World) : Calls Tryd.prog 23 #[.string d, .string ⟨#[46]⟩] w fun e w' => ∃ x y : ByteArray, e = .returned (.tuple #[.string x, .string y, .bool (cutDot d.data.toList).2.2]) ∧ Hid (x.data.toList = (cutDot d.data.toList).1 ∧ y.data.toList = (cutDot d.data.toList).2.1) ∧ Below w.heap.size w w' := by
  have H := Lib.hid (cut_in d hs w)
  obtain ⟨b, hb⟩ : ∃ b, b = (cutDot d.data.toList).2.2 := ⟨_, rfl⟩
  rw [← hb] at H ⊢
  clear hb
  go_enter Tryd.func23, Tryd.ntmps23
  go_wp2_with fail
  refine (H.out).mono ?_
  rintro e w1 ⟨x, y, rfl, hxy, hb1⟩
  go_wp2
  go_ret3
  exact ⟨x, y, rfl, hxy, hb1⟩

end Go.Proofs.YthdjpkpkkdnofabDoor
