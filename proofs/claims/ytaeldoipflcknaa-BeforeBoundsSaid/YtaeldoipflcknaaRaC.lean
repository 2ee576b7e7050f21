/-
  What is proved: the contracts of rate's numbers of 128 bits: size, multiply, divide: how often a number below 2^63 is in the product of two, and what is left. Conditions: as each says.
-/
import Derived.Test.YtaeldoipflcknaaRaA
import Derived.Test.YtaeldoipflcknaaShelf
import Derived.Test.YtaeldoipflcknaaRaB
import Derived.Laws.Bits64b
import Derived.Lib.Hide
namespace Go.Proofs.Ytaeldoipflcknaa.Ra
open Go Go.RowKit Go.Proofs

theorem size_any (n : Int) (h1 : -9223372036854775808 ≤ n) (h2 : n ≤ 9223372036854775807) (w : World) : Calls Try.prog 47 #[.int .i64 n] w fun e w' => e = .returned (.int .u64 (n.natAbs : Int)) ∧ w = w' := by
  by_cases hn : n < 0
  · have hwr : IntKind.u64.wrap (-IntKind.u64.wrap n) = (n.natAbs : Int) := by rw [IntKind.wrap_u64, IntKind.wrap_u64]; omega
    go_enter Try.func47, Try.ntmps47
    go_wp2
    go_ret
    exact ⟨rfl, rfl⟩
  · have hwr : IntKind.u64.wrap n = (n.natAbs : Int) := by rw [IntKind.wrap_u64]; omega
    go_enter Try.func47, Try.ntmps47
    go_wp2
    go_ret
    exact ⟨rfl, rfl⟩

theorem multiply_any (a b : Nat) (ha : a < 18446744073709551616) (hb : b < 18446744073709551616) (w : World) : Calls Try.prog 46 #[.int .u64 a, .int .u64 b] w fun e w' => e = .returned (.agg #[.int .u64 ((a * b / 18446744073709551616 : Nat) : Int), .int .u64 ((a * b % 18446744073709551616 : Nat) : Int)]) ∧ Below w.heap.size w w' := by
  obtain ⟨hi, hhi⟩ : ∃ hi : Nat, hi = a * b / 18446744073709551616 := ⟨_, rfl⟩
  obtain ⟨lo, hlo⟩ : ∃ lo : Nat, lo = a * b % 18446744073709551616 := ⟨_, rfl⟩
  have H := Try.bits_Mul64 a b ha hb
  rw [← hhi, ← hlo] at H ⊢
  have HM := Lib.hid H
  clear H hhi hlo
  go_enter Try.func46, Try.ntmps46
  go_wp2_with fail
  refine (HM.out _).mono ?_
  rintro e w' ⟨rfl, rfl⟩
  go_wp2
  exact bodyPost_ret (v := .agg #[.int .u64 hi, .int .u64 lo]) (by simp [results, Try.results46, go_sem]) rfl ⟨rfl, (Below.refl _ _).alloc (Nat.le_refl _) _⟩

theorem or_even (r b : Nat) (hr : 2 * r < 18446744073709551616) (hb : b < 2) : bits BinOp.or IntKind.u64 ((r : Int) * 2) (b : Int) = ((2 * r + b : Nat) : Int) := by
  have h := bits_or_u64_nat (2 * r) b hr (by omega)
  rw [show (((2 * r : Nat)) : Int) = (r : Int) * 2 by omega] at h
  rw [h]
  have h2 := Nat.two_pow_add_eq_or_of_lt (i := 1) (b := b) (by simpa using hb) r
  rw [Nat.pow_one] at h2
  rw [← h2]
theorem or_one (q : Nat) (hq : q < 18446744073709551616) (he : q % 2 = 0) : bits BinOp.or IntKind.u64 (q : Int) 1 = ((q + 1 : Nat) : Int) := by
  obtain ⟨r, rfl⟩ : ∃ r, q = 2 * r := ⟨q / 2, by omega⟩
  have h := or_even r 1 hq (by omega)
  rw [show (((2 * r : Nat)) : Int) = (r : Int) * 2 by omega]
  exact h

set_option maxHeartbeats 1000000 in
theorem divide_loop (hi lo den : Nat) (hlo : lo < 18446744073709551616) (hden : den ≤ 9223372036854775807) (hh : hi < den) (w : World) :
    Calls Try.prog 48 #[.agg #[.int .u64 hi, .int .u64 lo], .int .u64 den] w fun e w' => e = .returned (.tuple #[.int .u64 (divL 64 den hi 0 lo).1, .int .u64 (divL 64 den hi 0 lo).2, .bool true]) ∧ Below w.heap.size w w' := by
  have hh' : ¬ den ≤ hi := by omega
  obtain ⟨R, hR⟩ : ∃ R, R = divL 64 den hi 0 lo := ⟨_, rfl⟩
  rw [← hR]
  have HR := Lib.hid hR
  clear hR
  go_enter Try.func48, Try.ntmps48
  go_wp2
  go_loopw [4, 5, 13] (fun q r i wr => ∃ k qn rn ln : Nat, k ≤ 64 ∧ qn < 18446744073709551616 ∧ rn < den ∧ ln < 18446744073709551616 ∧ i = .int .i64 k ∧ q = .int .u64 qn ∧ r = .int .u64 rn ∧ wr = w.alloc (.cells #[.int .u64 hi, .int .u64 ln] 90) ∧ Hid (divL (64 - k) den rn qn ln = R)) (fun _ _ i _ => 64 - (RowKit.intOf i).toNat)
  case atStart => exact ⟨0, 0, hi, lo, by omega, by omega, hh, hlo, rfl, rfl, rfl, rfl, Lib.hid HR.out.symm⟩
  case round =>
    obtain ⟨k, qn, rn, ln, hk, hq, hr, hl, rfl, rfl, rfl, rfl, HZ⟩ := hrel
    by_cases hlt : k < 64
    · have ek : 64 - k = (64 - (k + 1)) + 1 := by omega
      obtain ⟨b, hb⟩ : ∃ b, b = ln / 9223372036854775808 := ⟨_, rfl⟩
      obtain ⟨r2, hr2⟩ : ∃ r2, r2 = 2 * rn + b := ⟨_, rfl⟩
      obtain ⟨q2, hq2⟩ : ∃ q2, q2 = 2 * qn % 18446744073709551616 := ⟨_, rfl⟩
      obtain ⟨l2, hl2⟩ : ∃ l2, l2 = 2 * ln % 18446744073709551616 := ⟨_, rfl⟩
      have hb2 : b < 2 := by omega
      have o1 : bits BinOp.or IntKind.u64 ((rn : Int) * 2) ((ln : Int) / 9223372036854775808) = (r2 : Int) := by
        rw [show (ln : Int) / 9223372036854775808 = ((b : Nat) : Int) by omega, or_even rn b (by omega) hb2, hr2]
      have o2 : IntKind.u64.wrap ((qn : Int) * 2) = (q2 : Int) := by rw [IntKind.wrap_u64]; omega
      have o3 : IntKind.u64.wrap ((ln : Int) * 2) = (l2 : Int) := by rw [IntKind.wrap_u64]; omega
      obtain ⟨q3, hq3⟩ : ∃ q3, q3 = q2 + 1 := ⟨_, rfl⟩
      have o4 : bits BinOp.or IntKind.u64 (q2 : Int) 1 = (q3 : Int) := by rw [or_one q2 (by omega) (by omega), hq3]
      have b1 : q3 < 18446744073709551616 := by omega
      have b2 : q2 < 18446744073709551616 := by omega
      have b3 : l2 < 18446744073709551616 := by omega
      have b4 : r2 < 2 * den := by omega
      by_cases hc : den ≤ r2
      · have HN : Hid (divL (64 - (k + 1)) den (r2 - den) q3 l2 = R) := Lib.hid (by
          rw [← HZ.out, ek, divL, ← hb, ← hr2, ← hq2, ← hl2, if_pos hc, hq3])
        clear hb hr2 hq2 hl2 hq3 ek HZ
        go_wp2
        refine ⟨⟨k + 1, q3, r2 - den, l2, by omega, b1, by omega, b3, by go_num, rfl, ?_, rfl, HN⟩, by simp [RowKit.intOf]; omega⟩
        exact congrArg (Value.int IntKind.u64) (by omega)
      · have HN : Hid (divL (64 - (k + 1)) den r2 q2 l2 = R) := Lib.hid (by
          rw [← HZ.out, ek, divL, ← hb, ← hr2, ← hq2, ← hl2, if_neg hc])
        clear hb hr2 hq2 hl2 hq3 ek HZ
        go_wp2
        exact ⟨⟨k + 1, q2, r2, l2, by omega, b2, by omega, b3, by go_num, rfl, rfl, rfl, HN⟩, by simp [RowKit.intOf]; omega⟩
    · have HN : Hid (R = (qn, rn)) := Lib.hid (by rw [← HZ.out, show 64 - k = 0 by omega]; rfl)
      clear HZ
      go_wp2
      go_ret3
      obtain rfl := HN.out
      exact ⟨rfl, (Below.refl _ _).alloc (Nat.le_refl _) _⟩

theorem divide_yes (hi lo den : Nat) (hlo : lo < 18446744073709551616) (hden : den ≤ 9223372036854775807) (hh : hi < den) (w : World) :
    Calls Try.prog 48 #[.agg #[.int .u64 hi, .int .u64 lo], .int .u64 den] w fun e w' => e = .returned (.tuple #[.int .u64 ((hi * 18446744073709551616 + lo) / den : Nat), .int .u64 ((hi * 18446744073709551616 + lo) % den : Nat), .bool true]) ∧ Below w.heap.size w w' := by
  have h := divide_loop hi lo den hlo hden hh w
  rwa [divL_whole den hi lo hh hlo] at h

theorem divide_no (hi lo den : Nat) (hh : ¬ hi < den) (w : World) :
    Calls Try.prog 48 #[.agg #[.int .u64 hi, .int .u64 lo], .int .u64 den] w fun e w' => e = .returned (.tuple #[.int .u64 0, .int .u64 0, .bool false]) ∧ Below w.heap.size w w' := by
  have hh' : den ≤ hi := by omega
  go_enter Try.func48, Try.ntmps48
  go_wp2
  go_ret3
  exact ⟨rfl, (Below.refl _ _).alloc (Nat.le_refl _) _⟩

end Go.Proofs.Ytaeldoipflcknaa.Ra
