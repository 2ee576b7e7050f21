/-
  What is proved: the contract of rate.Parse: what any text's rate is, or why there is none, by a plain function on bytes. Conditions: the text is shorter than 2^62 bytes.
-/
import Derived.Test.YthdjpkpkkdnofabDoorRateRead
namespace Go.Proofs.YthdjpkpkkdnofabDoor
open Go Go.RowKit Go.Sort Go.Lib Go.Proofs

def rpRead (wh fr : List UInt8) : Int := readV (readV (readV 0 wh) fr) (List.replicate (4 - fr.length) 48)
def rpEnd (ended below : Bool) (n2 wh fr : List UInt8) (pt : Bool) : Int × Int :=
  if (!ended || !wholeB wh || (pt && !fracB fr) || (below && n2 == [48])) = true then (0, 3) else
  if rightB (rpRead wh fr) = true then ((if below = true then -(rpRead wh fr) else rpRead wh fr), 0) else (0, 2)
/-- A text's rate, and the error's number. -/
def rateR (l : List UInt8) : Int × Int :=
  if l = [] then (0, 10) else
  rpEnd (hasSuffix l [37]) (hasPrefix (trimSuffix l [37]) [45]) (trimPrefix (trimSuffix l [37]) [45]) (cutDot (trimPrefix (trimSuffix l [37]) [45])).1 (cutDot (trimPrefix (trimSuffix l [37]) [45])).2.1 (cutDot (trimPrefix (trimSuffix l [37]) [45])).2.2

theorem cutPercent (s : ByteArray) (hs : s.size ≤ 4611686018427387904) (w : World) : Calls Tryd.prog 21 #[.string s, .string ⟨#[37]⟩] w fun e w' => ∃ (d : ByteArray) (b : Bool), e = .returned (.tuple #[.string d, .bool b]) ∧ Hid (d.data.toList = trimSuffix s.data.toList [37] ∧ b = hasSuffix s.data.toList [37]) ∧ d.size ≤ s.size ∧ w = w' := by
  refine (Tryd.strings_CutSuffix s ⟨#[37]⟩ w (by omega)).mono ?_
  rintro e w' ⟨rfl, rfl⟩
  refine ⟨_, _, rfl, Lib.hid ⟨rfl, rfl⟩, ?_, rfl⟩
  rw [← size_len, ← size_len]
  show (trimSuffix s.data.toList [37]).length ≤ _
  unfold trimSuffix
  split
  · rw [List.length_take]; omega
  · omega
theorem cutMinus2 (s : ByteArray) (w : World) : Calls Tryd.prog 22 #[.string s, .string ⟨#[45]⟩] w fun e w' => ∃ (d : ByteArray) (b : Bool), e = .returned (.tuple #[.string d, .bool b]) ∧ Hid (d.data.toList = trimPrefix s.data.toList [45] ∧ b = hasPrefix s.data.toList [45]) ∧ d.size ≤ s.size ∧ w = w' := by
  refine (cutMinus s w).mono ?_
  rintro e w' ⟨d, rfl, hd, hs, rfl⟩
  exact ⟨d, _, rfl, Lib.hid ⟨hd.out, rfl⟩, hs, rfl⟩
theorem cutDot_len : ∀ (l : List UInt8), (cutDot l).1.length ≤ l.length ∧ (cutDot l).2.1.length ≤ l.length ∧ ((cutDot l).2.2 = false → (cutDot l).2.1 = [])
  | [] => by simp [cutDot]
  | b :: r => by
    have h := cutDot_len r
    unfold cutDot
    split
    · simp
    · simp only [List.length_cons]; exact ⟨by omega, by omega, h.2.2⟩
theorem cut2 (s : ByteArray) (hs : s.size ≤ 4611686018427387904) (w : World) : Calls Tryd.prog 23 #[.string s, .string ⟨#[46]⟩] w fun e w' => ∃ (x y : ByteArray) (b : Bool), e = .returned (.tuple #[.string x, .string y, .bool b]) ∧ Hid (x.data.toList = (cutDot s.data.toList).1 ∧ y.data.toList = (cutDot s.data.toList).2.1 ∧ b = (cutDot s.data.toList).2.2) ∧ x.size ≤ s.size ∧ y.size ≤ s.size ∧ Below w.heap.size w w' := by
  refine (cut_any s hs w).mono ?_
  rintro e w' ⟨x, y, rfl, hxy, hb⟩
  have h := cutDot_len s.data.toList
  refine ⟨x, y, _, rfl, Lib.hid ⟨hxy.out.1, hxy.out.2, rfl⟩, ?_, ?_, hb⟩
  · rw [← size_len, ← size_len, hxy.out.1]; exact h.1
  · rw [← size_len, ← size_len, hxy.out.2]; exact h.2.1
theorem isWhole2 (d : ByteArray) (hs : d.size ≤ 4611686018427387904) (w : World) : Calls Tryd.prog 24 #[.string d] w fun e w' => ∃ b, e = .returned (.bool b) ∧ Hid (b = wholeB d.data.toList) ∧ w = w' := by
  refine (isWhole_any d hs w).mono ?_
  rintro e w' ⟨rfl, rfl⟩
  exact ⟨_, rfl, Lib.hid rfl, rfl⟩
theorem isFraction2 (d : ByteArray) (hs : d.size ≤ 4611686018427387904) (w : World) : Calls Tryd.prog 25 #[.string d] w fun e w' => ∃ b, e = .returned (.bool b) ∧ Hid (b = fracB d.data.toList) ∧ w = w' := by
  refine (isFraction_any d hs w).mono ?_
  rintro e w' ⟨rfl, rfl⟩
  exact ⟨_, rfl, Lib.hid rfl, rfl⟩

theorem readV_bd : ∀ (l : List UInt8) (r : Int), l.all isDig = true → -10000000009 ≤ r → r ≤ 10000000009 → -10000000009 ≤ readV r l ∧ readV r l ≤ 10000000009
  | [], r, _, h1, h2 => by unfold readV; exact ⟨h1, h2⟩
  | b :: t, r, hl, h1, h2 => by
    unfold readV
    split
    · rename_i hr
      obtain ⟨f1, f2⟩ := rightB_iff.1 hr
      simp only [List.all_cons, Bool.and_eq_true] at hl
      have hb := hl.1
      simp only [isDig, Bool.and_eq_true, decide_eq_true_eq] at hb
      exact readV_bd t _ hl.2 (by omega) (by omega)
    · exact ⟨h1, h2⟩
theorem whole_dig {l : List UInt8} (h : wholeB l = true) : l.all isDig = true := by
  unfold wholeB at h
  simp only [Bool.or_eq_true, Bool.and_eq_true] at h
  rcases h with h | h
  · rw [beq_iff_eq.1 h]; rfl
  · have := h.1; unfold digB at this; simp only [Bool.and_eq_true] at this; exact this.2
theorem frac_dig {l : List UInt8} (h : fracB l = true) : l.all isDig = true ∧ l.length ≤ 4 := by
  unfold fracB at h
  simp only [Bool.and_eq_true] at h
  have := h.1.2; unfold digB at this; simp only [Bool.and_eq_true] at this; exact ⟨this.2, of_decide_eq_true h.1.1⟩
theorem read2 (r : Int) (r1 : -10000000009 ≤ r) (r2 : r ≤ 10000000009) (d : ByteArray) (hs : d.size ≤ 4611686018427387904) (hd : d.data.toList.all isDig = true) (w : World) : Calls Tryd.prog 26 #[.int .i64 r, .string d] w fun e w' => ∃ z : Int, e = .returned (.int .i64 z) ∧ Hid (z = readV r d.data.toList) ∧ -10000000009 ≤ z ∧ z ≤ 10000000009 ∧ w = w' := by
  refine (read_any r r1 r2 d hs hd w).mono ?_
  rintro e w' ⟨rfl, rfl⟩
  have := readV_bd d.data.toList r hd r1 r2
  exact ⟨_, rfl, Lib.hid rfl, this.1, this.2, rfl⟩

theorem zeros_list (n : Nat) (h : n ≤ 4) : ((ByteArray.mk #[48, 48, 48, 48]).extract n 4).data.toList = List.replicate (4 - n) 48 := by
  rw [Lib.extract_data]
  match n, h with
  | 0, _ => rfl
  | 1, _ => rfl
  | 2, _ => rfl
  | 3, _ => rfl
  | 4, _ => rfl
theorem zeros_size (n : Nat) (h : n ≤ 4) : ((ByteArray.mk #[48, 48, 48, 48]).extract n 4).size ≤ 4611686018427387904 := by
  rw [← size_len, zeros_list n h, List.length_replicate]; omega
theorem zeros_dig (n : Nat) (h : n ≤ 4) : ((ByteArray.mk #[48, 48, 48, 48]).extract n 4).data.toList.all isDig = true := by
  rw [zeros_list n h]; simp [isDig]

set_option maxHeartbeats 2000000 in
set_option maxRecDepth 100000 in
theorem rateParse_any (s : ByteArray) (hs : s.size ≤ 4611686018427387904) (w : World) : Calls Tryd.prog 11 #[.string s] w fun e w' => e = .returned (.tuple #[.int .i64 (rateR s.data.toList).1, .int .i64 (rateR s.data.toList).2]) ∧ Below w.heap.size w w' := by
  obtain ⟨R, hR⟩ : ∃ R, R = rateR s.data.toList := ⟨_, rfl⟩
  rw [← hR]
  by_cases h0 : s.data.toList = []
  · obtain rfl : R = (0, 10) := by rw [hR]; unfold rateR; rw [if_pos h0]
    obtain rfl : s = ⟨#[]⟩ := by
      obtain ⟨⟨l⟩⟩ := s
      simp at h0
      rw [h0]
    clear hR h0
    go_enter Tryd.func11, Tryd.ntmps11
    go_wp2
    go_ret2
    exact ⟨rfl, Below.refl _ _⟩
  unfold rateR at hR
  rw [if_neg h0] at hR
  have HR := Lib.hid hR
  have hne : s.toList.isEmpty = false := by
    rw [Lib.toList_data]
    cases h : s.data.toList with
    | nil => exact absurd h h0
    | cons a r => rfl
  clear hR h0
  go_enter Tryd.func11, Tryd.ntmps11
  go_wp2_with fail
  refine (cutPercent s hs w).mono ?_
  rintro e w' ⟨d, ended, rfl, hd, hsd, rfl⟩
  go_wp2_with fail
  refine (cutMinus2 d w).mono ?_
  rintro e w' ⟨m, below, rfl, hm, hsm, rfl⟩
  go_wp2_with fail
  refine (cut2 m (by omega) w).mono ?_
  rintro e w1 ⟨x, y, pt, rfl, hxy, hsx, hsy, hb1⟩
  have HF : Hid (R = rpEnd ended below m.data.toList x.data.toList y.data.toList pt) := Lib.hid (by
    rw [HR.out, hd.out.2, hm.out.2, hm.out.1, hxy.out.1, hxy.out.2.1, hxy.out.2.2, hm.out.1, hd.out.1])
  have HY : Hid (pt = false → y.data.toList = []) := Lib.hid (fun h => by rw [hxy.out.2.1]; exact (cutDot_len _).2.2 (by rw [← hxy.out.2.2]; exact h))
  clear HR hd hm hxy hne
  cases ended
  · obtain rfl : R = (0, 3) := HF.out
    go_wp2
    go_ret2
    exact ⟨rfl, hb1⟩
  go_wp2_with fail
  refine (isWhole2 x (by omega) w1).mono ?_
  rintro e w' ⟨wb, rfl, hwb, rfl⟩
  cases wb
  · obtain rfl : R = (0, 3) := by rw [HF.out]; unfold rpEnd; rw [← hwb.out]; rfl
    go_wp2
    go_ret2
    exact ⟨rfl, hb1⟩
  have HX : Hid (x.data.toList.all isDig = true) := Lib.hid (whole_dig hwb.out.symm)
  cases pt
  · have HYD : Hid (y.data.toList.all isDig = true) := Lib.hid (by rw [HY.out rfl]; rfl)
    have hy4 : y.size ≤ 4 := by rw [← size_len, HY.out rfl]; simp
    have HB : Hid (R = if (below && m.data.toList == [48]) = true then (0, 3) else if rightB (rpRead x.data.toList y.data.toList) = true then ((if below = true then -(rpRead x.data.toList y.data.toList) else rpRead x.data.toList y.data.toList), 0) else (0, 2)) := Lib.hid (by
      rw [HF.out]; unfold rpEnd; rw [← hwb.out]; rfl)
    clear HF HY hwb
    cases below
    · have HE : Hid (R = if rightB (rpRead x.data.toList y.data.toList) = true then (rpRead x.data.toList y.data.toList, 0) else (0, 2)) := Lib.hid HB.out
      clear HB
      go_wp2_with fail
      refine (read2 0 (by omega) (by omega) x (by omega) HX.out w1).mono ?_
      rintro e w' ⟨z1, rfl, hz1, b1, b2, rfl⟩
      go_wp2_with fail
      refine (read2 z1 b1 b2 y (by omega) HYD.out w1).mono ?_
      rintro e w' ⟨z2, rfl, hz2, b3, b4, rfl⟩
      go_wp2_with fail
      refine (read2 z2 b3 b4 _ (zeros_size _ hy4) (zeros_dig _ hy4) w1).mono ?_
      rintro e w' ⟨z3, rfl, hz3, b5, b6, rfl⟩
      have ez : z3 = rpRead x.data.toList y.data.toList := by
        rw [hz3.out, zeros_list _ hy4, hz2.out, hz1.out]; unfold rpRead; rw [size_len]
      have hR := HE.out
      rw [← ez] at hR
      clear hz1 hz2 hz3 ez HE
      cases hr : rightB z3 with
      | true =>
        rw [hr] at hR
        obtain rfl : R = (z3, 0) := hR
        go_wp2_with fail
        refine (right_any _ _).mono ?_
        rintro e w' ⟨rfl, rfl⟩
        go_wp2
        go_ret2
        exact ⟨rfl, hb1⟩
      | false =>
        rw [hr] at hR
        obtain rfl : R = (0, 2) := hR
        go_wp2_with fail
        refine (right_any _ _).mono ?_
        rintro e w' ⟨rfl, rfl⟩
        go_wp2
        go_ret2
        exact ⟨rfl, hb1⟩
    · cases h48 : (m.toList == [48]) with
      | true =>
        obtain rfl : R = (0, 3) := by
          rw [HB.out, ← Lib.toList_data, h48]; rfl
        go_wp2
        go_ret2
        exact ⟨rfl, hb1⟩
      | false =>
        have HE : Hid (R = if rightB (rpRead x.data.toList y.data.toList) = true then (-(rpRead x.data.toList y.data.toList), 0) else (0, 2)) := Lib.hid (by
          rw [HB.out, ← Lib.toList_data m, h48]; rfl)
        clear HB
        go_wp2_with fail
        refine (read2 0 (by omega) (by omega) x (by omega) HX.out w1).mono ?_
        rintro e w' ⟨z1, rfl, hz1, b1, b2, rfl⟩
        go_wp2_with fail
        refine (read2 z1 b1 b2 y (by omega) HYD.out w1).mono ?_
        rintro e w' ⟨z2, rfl, hz2, b3, b4, rfl⟩
        go_wp2_with fail
        refine (read2 z2 b3 b4 _ (zeros_size _ hy4) (zeros_dig _ hy4) w1).mono ?_
        rintro e w' ⟨z3, rfl, hz3, b5, b6, rfl⟩
        have ez : z3 = rpRead x.data.toList y.data.toList := by
          rw [hz3.out, zeros_list _ hy4, hz2.out, hz1.out]; unfold rpRead; rw [size_len]
        have hR := HE.out
        rw [← ez] at hR
        clear hz1 hz2 hz3 ez HE
        cases hr : rightB z3 with
        | true =>
          rw [hr] at hR
          obtain rfl : R = (-z3, 0) := hR
          go_wp2_with fail
          refine (right_any _ _).mono ?_
          rintro e w' ⟨rfl, rfl⟩
          go_wp2
          go_ret2
          exact ⟨rfl, hb1⟩
        | false =>
          rw [hr] at hR
          obtain rfl : R = (0, 2) := hR
          go_wp2_with fail
          refine (right_any _ _).mono ?_
          rintro e w' ⟨rfl, rfl⟩
          go_wp2
          go_ret2
          exact ⟨rfl, hb1⟩
  · go_wp2_with fail
    refine (isFraction2 y (by omega) w1).mono ?_
    rintro e w' ⟨fb, rfl, hfb, rfl⟩
    cases fb
    · obtain rfl : R = (0, 3) := by rw [HF.out]; unfold rpEnd; rw [← hwb.out, ← hfb.out]; rfl
      go_wp2
      go_ret2
      exact ⟨rfl, hb1⟩
    have HYD : Hid (y.data.toList.all isDig = true) := Lib.hid (frac_dig hfb.out.symm).1
    have hy4 : y.size ≤ 4 := by rw [← size_len]; exact (frac_dig hfb.out.symm).2
    have HB : Hid (R = if (below && m.data.toList == [48]) = true then (0, 3) else if rightB (rpRead x.data.toList y.data.toList) = true then ((if below = true then -(rpRead x.data.toList y.data.toList) else rpRead x.data.toList y.data.toList), 0) else (0, 2)) := Lib.hid (by
      rw [HF.out]; unfold rpEnd; rw [← hwb.out, ← hfb.out]; rfl)
    clear HF HY hwb hfb
    cases below
    · have HE : Hid (R = if rightB (rpRead x.data.toList y.data.toList) = true then (rpRead x.data.toList y.data.toList, 0) else (0, 2)) := Lib.hid HB.out
      clear HB
      go_wp2_with fail
      refine (read2 0 (by omega) (by omega) x (by omega) HX.out w1).mono ?_
      rintro e w' ⟨z1, rfl, hz1, b1, b2, rfl⟩
      go_wp2_with fail
      refine (read2 z1 b1 b2 y (by omega) HYD.out w1).mono ?_
      rintro e w' ⟨z2, rfl, hz2, b3, b4, rfl⟩
      go_wp2_with fail
      refine (read2 z2 b3 b4 _ (zeros_size _ hy4) (zeros_dig _ hy4) w1).mono ?_
      rintro e w' ⟨z3, rfl, hz3, b5, b6, rfl⟩
      have ez : z3 = rpRead x.data.toList y.data.toList := by
        rw [hz3.out, zeros_list _ hy4, hz2.out, hz1.out]; unfold rpRead; rw [size_len]
      have hR := HE.out
      rw [← ez] at hR
      clear hz1 hz2 hz3 ez HE
      cases hr : rightB z3 with
      | true =>
        rw [hr] at hR
        obtain rfl : R = (z3, 0) := hR
        go_wp2_with fail
        refine (right_any _ _).mono ?_
        rintro e w' ⟨rfl, rfl⟩
        go_wp2
        go_ret2
        exact ⟨rfl, hb1⟩
      | false =>
        rw [hr] at hR
        obtain rfl : R = (0, 2) := hR
        go_wp2_with fail
        refine (right_any _ _).mono ?_
        rintro e w' ⟨rfl, rfl⟩
        go_wp2
        go_ret2
        exact ⟨rfl, hb1⟩
    · cases h48 : (m.toList == [48]) with
      | true =>
        obtain rfl : R = (0, 3) := by
          rw [HB.out, ← Lib.toList_data, h48]; rfl
        go_wp2
        go_ret2
        exact ⟨rfl, hb1⟩
      | false =>
        have HE : Hid (R = if rightB (rpRead x.data.toList y.data.toList) = true then (-(rpRead x.data.toList y.data.toList), 0) else (0, 2)) := Lib.hid (by
          rw [HB.out, ← Lib.toList_data m, h48]; rfl)
        clear HB
        go_wp2_with fail
        refine (read2 0 (by omega) (by omega) x (by omega) HX.out w1).mono ?_
        rintro e w' ⟨z1, rfl, hz1, b1, b2, rfl⟩
        go_wp2_with fail
        refine (read2 z1 b1 b2 y (by omega) HYD.out w1).mono ?_
        rintro e w' ⟨z2, rfl, hz2, b3, b4, rfl⟩
        go_wp2_with fail
        refine (read2 z2 b3 b4 _ (zeros_size _ hy4) (zeros_dig _ hy4) w1).mono ?_
        rintro e w' ⟨z3, rfl, hz3, b5, b6, rfl⟩
        have ez : z3 = rpRead x.data.toList y.data.toList := by
          rw [hz3.out, zeros_list _ hy4, hz2.out, hz1.out]; unfold rpRead; rw [size_len]
        have hR := HE.out
        rw [← ez] at hR
        clear hz1 hz2 hz3 ez HE
        cases hr : rightB z3 with
        | true =>
          rw [hr] at hR
          obtain rfl : R = (-z3, 0) := hR
          go_wp2_with fail
          refine (right_any _ _).mono ?_
          rintro e w' ⟨rfl, rfl⟩
          go_wp2
          go_ret2
          exact ⟨rfl, hb1⟩
        | false =>
          rw [hr] at hR
          obtain rfl : R = (0, 2) := hR
          go_wp2_with fail
          refine (right_any _ _).mono ?_
          rintro e w' ⟨rfl, rfl⟩
          go_wp2
          go_ret2
          exact ⟨rfl, hb1⟩

end Go.Proofs.YthdjpkpkkdnofabDoor
