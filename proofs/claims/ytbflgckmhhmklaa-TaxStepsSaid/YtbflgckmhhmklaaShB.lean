/-
  What is proved: the contract of math/bits.Div64: how often a number is in another one of 128 bits, and what is left. Conditions: the number is greater than the greater half of the other one.
-/
import Derived.Test.YtbflgckmhhmklaaShA
namespace Go.Proofs.Ytbflgckmhhmklaa.Sh
open Go Go.RowKit Go.Proofs

theorem div_any (hi lo y : Nat) (hlo : lo < 18446744073709551616) (hy : hi < y) (hy2 : y < 18446744073709551616) (w : World) :
    Calls Try.prog 31 #[.int .u64 hi, .int .u64 lo, .int .u64 y] w fun e w' => e = .returned (.tuple #[.int .u64 (((hi * 18446744073709551616 + lo) / y : Nat) : Int), .int .u64 (((hi * 18446744073709551616 + lo) % y : Nat) : Int)]) ∧ ∃ n, w' = w.drewN n := by
  rcases Nat.eq_zero_or_pos hi with rfl | hhi
  · have := div_zero lo y hlo hy hy2 w
    simpa using this
  · obtain ⟨s1, s2, s3, s4⟩ := shift_of y (by omega) hy2
    obtain ⟨s, hs⟩ : ∃ s, s = 64 - Go.Lib.bitLen y := ⟨_, rfl⟩
    rw [← hs] at s2 s3 s4
    obtain ⟨Y, hY⟩ : ∃ Y, Y = y * 2 ^ s := ⟨_, rfl⟩
    rw [← hY] at s2 s3
    have hp := Nat.two_pow_pos s
    have hhs : hi * 2 ^ s + 2 ^ s ≤ Y := by rw [hY, ← Nat.succ_mul]; exact Nat.mul_le_mul_right _ hy
    have hls := low_small lo s (by omega) hlo
    have hsp := shift_parts hi lo s (by omega)
    have hor := or_parts hi (lo / 2 ^ (64 - s)) s (by omega) hls (by omega)
    obtain ⟨u, hu⟩ : ∃ u, u = hi * 2 ^ s + lo / 2 ^ (64 - s) := ⟨_, rfl⟩
    obtain ⟨L, hL⟩ : ∃ L, L = lo * 2 ^ s % 18446744073709551616 := ⟨_, rfl⟩
    have hL2 : L < 18446744073709551616 := by rw [hL]; exact Nat.mod_lt _ (by decide)
    rw [← hu, ← hL] at hsp
    rw [← hu] at hor
    have huY : u < Y := by omega
    obtain ⟨N, hN⟩ : ∃ N, N = hi * 18446744073709551616 + lo := ⟨_, rfl⟩
    rw [← hN] at hsp ⊢
    have hG : N / y < 18446744073709551616 := by
      rw [Nat.div_lt_iff_lt_mul (by omega), hN]
      have := Nat.mul_le_mul_left 18446744073709551616 (show hi + 1 ≤ y from hy)
      omega
    have hNN : (u * 4294967296 + L / 4294967296) * 4294967296 + L % 4294967296 = N * 2 ^ s := by
      rw [← hsp]
      clear hsp hor hu hL hG hls hhs hY
      omega
    have hYY : Y = Y / 4294967296 * 4294967296 + Y % 4294967296 := by clear hsp hor hu hL hG hls hhs hY hNN; omega
    have c1 : ((2 : Int) ^ s) = ((2 ^ s : Nat) : Int) := by rw [Int.natCast_pow]; rfl
    refine (div_walk hi lo y s Y (Y / 4294967296) (Y % 4294967296) u L (L / 4294967296) (L % 4294967296) N (N / y) (N % y) hhi hy hy2 s4 w ?_ ?_ ?_ ?_ ?_ ?_ ?_ ?_ ?_ ?_ ?_ s3 ?_ huY ?_ ?_ ?_ ?_ (Lib.hid rfl) (Lib.hid rfl) hG).mono ?_
    · refine Lib.hid fun W => ?_
      refine (Try.bits_LeadingZeros64 (y : Int) W (by omega) (by omega)).mono ?_
      rintro e w' ⟨rfl, rfl⟩
      refine ⟨?_, rfl⟩
      rw [Int.toNat_natCast, show (64 : Int) - (Go.Lib.bitLen y : Int) = (s : Int) by omega]
    · rw [c1, wrap_mul y (2 ^ s) Y (by rw [← hY, Nat.mod_eq_of_lt s3])]
    · rw [Int.natCast_ediv]; rfl
    · exact mask_and Y s3
    · rw [c1, wrap_mul hi (2 ^ s) (hi * 2 ^ s) (by rw [Nat.mod_eq_of_lt (by omega)]), show ((2 : Int) ^ (64 - s)) = ((2 ^ (64 - s) : Nat) : Int) by rw [Int.natCast_pow]; rfl, ← Int.natCast_ediv]
      exact hor
    · rw [c1, wrap_mul lo (2 ^ s) L hL]
    · rw [Int.natCast_ediv]; rfl
    · exact mask_and L hL2
    · omega
    · omega
    · omega
    · exact Lib.hid hYY
    · omega
    · omega
    · exact Lib.hid hNN
    · exact Lib.hid hY
    · rintro e w' ⟨rfl, rfl⟩
      exact ⟨rfl, 0, rfl⟩

end Go.Proofs.Ytbflgckmhhmklaa.Sh
