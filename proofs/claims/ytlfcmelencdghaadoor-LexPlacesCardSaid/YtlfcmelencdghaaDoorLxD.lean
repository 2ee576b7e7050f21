/-
  What is proved: the contracts of strings.Cut at one byte and of lex.millionths, by plain facts on digits. Conditions: texts are shorter than 2^40 bytes; the variable ErrRange holds an error.
-/
import Derived.Test.YtlfcmelencdghaaDoorLxC
import Derived.Test.YtlfcmelencdghaaDoorShelf
import Derived.Lib.IndexBytes
import Derived.Lib.TrimByte
import Derived.Lib.ParseIntBCases
import Derived.Deep.QuietTactic
import Derived.BigQuiet
namespace Go.Proofs.YtlfcmelencdghaaDoor
open Go Go.RowKit Go.Lib Go.Proofs
set_option linter.unusedVariables false

theorem valN_app (a b : List UInt8) : valN (a ++ b) = valN a * 10 ^ b.length + valN b := by
  have h : ∀ (b : List UInt8) (n : Nat), b.foldl (fun n b => 10 * n + (b.toNat - 48)) n = n * 10 ^ b.length + valN b := by
    intro b
    induction b with
    | nil => intro n; simp [valN]
    | cons c b ih =>
      intro n
      unfold valN
      simp only [List.foldl_cons]
      rw [ih, ih]
      rw [List.length_cons, Nat.pow_succ, Nat.add_mul, Nat.add_mul]
      have : 10 * n * 10 ^ b.length = n * (10 ^ b.length * 10) := by rw [Nat.mul_comm 10 n, Nat.mul_assoc, Nat.mul_comm 10]
      omega
  unfold valN
  rw [List.foldl_append, h]
  rfl
theorem valN_zeros : ∀ k : Nat, valN (List.replicate k 48) = 0
  | 0 => rfl
  | k + 1 => by
    rw [List.replicate_succ, show (48 : UInt8) :: List.replicate k 48 = [48] ++ List.replicate k 48 from rfl, valN_app, valN_zeros k]
    simp [valN]
theorem fold_ge : ∀ (l : List UInt8) (n : Nat), n ≤ l.foldl (fun n b => 10 * n + (b.toNat - 48)) n
  | [], n => Nat.le_refl _
  | b :: l, n => by
    have := fold_ge l (10 * n + (b.toNat - 48))
    simp only [List.foldl_cons]; omega
theorem parseM (M : Nat) (hM : M = 18446744073709551615) : ∀ (l : List UInt8) (acc : Nat), (∀ b ∈ l, isDg b = true) → parseUintM M acc l = if l.foldl (fun n b => 10 * n + (b.toNat - 48)) acc ≤ M ∨ l = [] then .ok (l.foldl (fun n b => 10 * n + (b.toNat - 48)) acc) else .range
  | [], acc, _ => by simp [parseUintM]
  | c :: r, acc, h => by
    have hc := h c (List.mem_cons_self ..)
    simp [isDg] at hc
    have ih := parseM M hM r (acc * 10 + (c.toNat - 48)) (fun b hb => h b (List.mem_cons_of_mem _ hb))
    have hg := fold_ge r (10 * acc + (c.toNat - 48))
    rw [parseUintM, if_pos ⟨hc.1, hc.2⟩]
    simp only [List.foldl_cons, List.cons_ne_nil, or_false]
    rw [show 10 * acc + (c.toNat - 48) = acc * 10 + (c.toNat - 48) by omega] at hg ⊢
    generalize hv : r.foldl (fun n b => 10 * n + (b.toNat - 48)) (acc * 10 + (c.toNat - 48)) = v at ih hg ⊢
    by_cases h1 : 1844674407370955162 ≤ acc
    · rw [if_pos h1, if_neg (by omega)]
    · rw [if_neg h1]
      by_cases h2 : M < acc * 10 + (c.toNat - 48)
      · rw [if_pos h2, if_neg (by omega)]
      · rw [if_neg h2, ih]
        by_cases h3 : v ≤ M
        · rw [if_pos (.inl h3), if_pos h3]
        · rw [if_neg h3, if_neg]
          rintro (h4 | h4)
          · exact h3 h4
          · subst h4
            simp at hv
            omega
theorem parse64 {l : List UInt8} (hne : l ≠ []) (h : ∀ b ∈ l, isDg b = true) : parseIntB 64 l = if valN l < 9223372036854775808 then .ok (valN l : Int) else .range := by
  match l, hne with
  | c :: r, _ =>
    have hc := h c (List.mem_cons_self ..)
    simp [isDg] at hc
    rw [parseIntB_plain 64 c r (by omega) (by omega)]
    unfold parseUintB
    rw [if_neg (by simp), parseM (2 ^ 64 - 1) (by decide) _ 0 h]
    show signlessC (2 ^ 63) (if valN (c :: r) ≤ 2 ^ 64 - 1 ∨ c :: r = [] then .ok (valN (c :: r)) else .range) = _
    generalize valN (c :: r) = v
    simp only [List.cons_ne_nil, or_false]
    by_cases h1 : v < 9223372036854775808
    · rw [if_pos h1, if_pos (by omega)]
      unfold signlessC
      dsimp only
      rw [if_neg (by omega)]
    · rw [if_neg h1]
      by_cases h2 : v ≤ 2 ^ 64 - 1
      · rw [if_pos h2]; unfold signlessC; dsimp only; rw [if_pos (by omega)]
      · rw [if_neg h2]; rfl

/-- What stands ahead of the first point, and behind it. -/
def cutDot : List UInt8 → List UInt8 × List UInt8 × Bool
  | [] => ([], [], false)
  | b :: r => if b = 46 then ([], r, true) else (b :: (cutDot r).1, (cutDot r).2.1, (cutDot r).2.2)

theorem cutDot_index : ∀ (l : List UInt8), (indexByte l 46 = -1 ∧ cutDot l = (l, [], false)) ∨ (0 ≤ indexByte l 46 ∧ indexByte l 46 < l.length ∧ cutDot l = (l.take (indexByte l 46).toNat, l.drop ((indexByte l 46).toNat + 1), true))
  | [] => .inl ⟨rfl, rfl⟩
  | b :: r => by
    by_cases hb : b = 46
    · right
      have e : indexByte (b :: r) 46 = 0 := by unfold indexByte; rw [if_pos (beq_iff_eq.2 hb)]
      rw [e]
      refine ⟨by omega, by simp, ?_⟩
      unfold cutDot; rw [if_pos hb]; rfl
    · have e : indexByte (b :: r) 46 = if indexByte r 46 == -1 then -1 else indexByte r 46 + 1 := by
        rw [indexByte, if_neg (by simpa using hb)]
      rcases cutDot_index r with ⟨h1, h2⟩ | ⟨h1, h2, h3⟩
      · left
        rw [e, h1]
        refine ⟨rfl, ?_⟩
        unfold cutDot; rw [if_neg hb, h2]
      · right
        have hne : (indexByte r 46 == -1) = false := beq_eq_false_iff_ne.2 (by omega)
        rw [e, hne]
        simp only [Bool.false_eq_true, if_false]
        refine ⟨by omega, by rw [List.length_cons]; omega, ?_⟩
        rw [cutDot, if_neg hb, h3]
        obtain ⟨n, hn⟩ := Int.eq_ofNat_of_zero_le h1
        rw [hn, show ((n : Int) + 1).toNat = n + 1 by omega, Int.toNat_natCast]
        rfl

set_option maxHeartbeats 1000000 in
theorem cut_in (d : ByteArray) (hs : d.size ≤ 4611686018427387904) (w : World) : Calls Tryd.prog 33 #[.string d, .string ⟨#[46]⟩] w fun e w' => ∃ x y : ByteArray, e = .returned (.tuple #[.string x, .string y, .bool (cutDot d.data.toList).2.2]) ∧ Hid (x.data.toList = (cutDot d.data.toList).1 ∧ y.data.toList = (cutDot d.data.toList).2.1) ∧ Below w.heap.size w w' := by
  have HI := Tryd.stringslite_Index_one d 46 w
  rcases cutDot_index d.data.toList with ⟨h1, h2⟩ | ⟨h1, h2, h3⟩
  · rw [h1] at HI
    have H := Lib.hid HI
    have HC := Lib.hid h2
    rw [h2]
    clear HI h1 h2
    go_enter Tryd.func33, Tryd.ntmps33
    go_wp2_with fail
    refine (H.out).mono ?_
    rintro e w' ⟨rfl, rfl⟩
    go_wp2
    go_ret3
    exact ⟨d, ⟨#[]⟩, rfl, Lib.hid ⟨rfl, rfl⟩, Below.refl _ _⟩
  · obtain ⟨i, hi⟩ := Int.eq_ofNat_of_zero_le h1
    rw [hi] at HI h2
    rw [hi, Int.toNat_natCast] at h3
    rw [h3]
    have H := Lib.hid HI
    have hid : i < d.size := by rw [← size_len]; omega
    clear HI h1 h2 h3 hi
    have c1 : (0 : Int) ≤ (i : Int) := by omega
    have c2 : (i : Int) ≤ (d.size : Int) := by omega
    have c3 : (i : Int) + 1 ≤ (d.size : Int) := by omega
    go_enter Tryd.func33, Tryd.ntmps33
    go_wp2_with fail
    refine (H.out).mono ?_
    rintro e w' ⟨rfl, rfl⟩
    go_wp2
    go_quiet (fail)
    go_wp2
    go_ret3
    refine ⟨d.extract 0 i, d.extract (i + 1) d.size, rfl, Lib.hid ⟨?_, Lib.extract_to_end _ _⟩, below_drewN (Below.refl _ _) _⟩
    rw [Lib.extract_data]; simp

theorem cut_any (d : ByteArray) (hs : d.size ≤ 4611686018427387904) (w : World) : Calls Tryd.prog 30 #[.string d, .string ⟨#[46]⟩] w fun e w' => ∃ x y : ByteArray, e = .returned (.tuple #[.string x, .string y, .bool (cutDot d.data.toList).2.2]) ∧ Hid (x.data.toList = (cutDot d.data.toList).1 ∧ y.data.toList = (cutDot d.data.toList).2.1) ∧ Below w.heap.size w w' := by
  have H := Lib.hid (cut_in d hs w)
  obtain ⟨b, hb⟩ : ∃ b, b = (cutDot d.data.toList).2.2 := ⟨_, rfl⟩
  rw [← hb] at H ⊢
  clear hb
  go_enter Tryd.func30, Tryd.ntmps30
  go_wp2_with fail
  refine (H.out).mono ?_
  rintro e w1 ⟨x, y, rfl, hxy, hb1⟩
  go_wp2
  go_ret3
  exact ⟨x, y, rfl, hxy, hb1⟩

end Go.Proofs.YtlfcmelencdghaaDoor
