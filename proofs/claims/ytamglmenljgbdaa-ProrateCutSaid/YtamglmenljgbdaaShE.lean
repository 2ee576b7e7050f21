/-
  What is proved: the contract of the document's own over: a * b / c and what is left, bit by bit. Conditions: the numbers' limits.
-/
import Derived.Test.YtamglmenljgbdaaShD
namespace Go.Proofs.Ytamglmenljgbdaa.Sh
open Go Go.RowKit Go.Proofs

theorem over_q {q r a b c : Nat} (h : q * c + r = a * b) (hb : b ≤ c) (hc : 0 < c) : q ≤ a := by
  apply Nat.le_of_mul_le_mul_right _ hc
  have := Nat.mul_le_mul_left a hb
  omega
theorem half_pow (a e : Nat) : a / 2 ^ e = 2 * (a / 2 ^ (e + 1)) + a / 2 ^ e % 2 := by
  rw [Nat.pow_succ, ← Nat.div_div_eq_div_mul]; omega
theorem div_of {q r c N : Nat} (h : q * c + r = N) (hr : r < c) : q = N / c ∧ r = N % c := by
  have h1 : N = r + c * q := by rw [← h, Nat.mul_comm]; omega
  refine ⟨?_, ?_⟩
  · rw [h1, Nat.add_mul_div_left _ _ (by omega), Nat.div_eq_of_lt hr]; omega
  · rw [h1, Nat.add_mul_mod_self_left, Nat.mod_eq_of_lt hr]
theorem i64_and1 (n : Int) : bits .and .i64 n 1 = n % 2 := by
  have h1 : (BitVec.ofInt 64 1).toNat = 2 ^ 1 - 1 := by decide
  have key : (BitVec.ofInt 64 n &&& BitVec.ofInt 64 1).toNat = (n % ((2 ^ 64 : Nat) : Int)).toNat % 2 ^ 1 := by
    rw [BitVec.toNat_and, BitVec.toNat_ofInt, h1, Nat.and_two_pow_sub_one_eq_mod]
  show IntKind.i64.wrap ((BitVec.ofInt 64 n &&& BitVec.ofInt 64 1).toNat : Nat) = n % 2
  rw [key, IntKind.wrap_i64]
  omega
theorem two_mul_add (q c r A b : Nat) (h : q * c + r = A * b) : 2 * q * c + 2 * r = 2 * A * b := by
  rw [Nat.mul_assoc, Nat.mul_assoc, ← h]; omega
set_option maxHeartbeats 2000000 in
set_option maxRecDepth 100000 in
theorem over_any (a b c : Nat) (ha : a ≤ 1125899906842624) (hb : b ≤ c) (hc : 0 < c) (hc2 : c ≤ 72057594037927936) (w : World) : Calls Try.prog 61 #[.int .i64 a, .int .i64 b, .int .i64 c] w fun e w' => e = .returned (.tuple #[.int .i64 ((a * b / c : Nat) : Int), .int .i64 ((a * b % c : Nat) : Int)]) ∧ w' = w := by
  obtain ⟨G, hG⟩ : ∃ G, G = a * b / c := ⟨_, rfl⟩
  obtain ⟨H, hH⟩ : ∃ H, H = a * b % c := ⟨_, rfl⟩
  rw [← hG, ← hH]
  have HGH := Lib.hid (And.intro hG hH)
  clear hG hH
  go_enter Try.func61, Try.ntmps61
  go_wp2
  go_loop [8, 9, 10] (fun qv rv iv => ∃ q r e : Nat, e ≤ 58 ∧ qv = .int .i64 q ∧ rv = .int .i64 r ∧ iv = .int .i64 ((e : Int) - 1) ∧ r < c ∧ Hid (q * c + r = a / 2 ^ e * b)) (fun _ _ iv => (RowKit.intOf iv + 1).toNat)
  case atStart => exact ⟨0, 0, 58, by omega, rfl, rfl, rfl, hc, Lib.hid (by rw [Nat.div_eq_of_lt (by omega)]; simp)⟩
  case round =>
    obtain ⟨q, r, e, he, rfl, rfl, rfl, hr, HI⟩ := hrel
    by_cases h0 : e = 0
    · subst h0
      have hd := div_of HI.out hr
      rw [show a / 2 ^ 0 = a by simp] at hd
      obtain rfl : G = q := by rw [HGH.out.1, hd.1]
      obtain rfl : H = r := by rw [HGH.out.2, hd.2]
      clear HI HGH hd
      go_wp2
      go_ret2
      exact ⟨rfl, rfl⟩
    · obtain ⟨i, rfl⟩ : ∃ i, e = i + 1 := ⟨e - 1, by omega⟩
      rw [show (((i + 1 : Nat)) : Int) - 1 = (i : Int) by omega]
      have d0 : (0 : Int) ≤ (i : Int) := by omega
      have hq := over_q HI.out hb hc
      have hqa : a / 2 ^ (i + 1) ≤ a := Nat.div_le_self _ _
      obtain ⟨q2, hq2⟩ : ∃ q2, q2 = 2 * q := ⟨_, rfl⟩
      obtain ⟨r2, hr2⟩ : ∃ r2, r2 = 2 * r := ⟨_, rfl⟩
      have u1 : 2 * (q : Int) = (q2 : Int) := by omega
      have u2 : 2 * (r : Int) = (r2 : Int) := by omega
      have u3 : IntKind.i64.wrap (q2 : Int) = (q2 : Int) := wrap_i _ (by omega) (by omega)
      have u4 : IntKind.i64.wrap (r2 : Int) = (r2 : Int) := wrap_i _ (by omega) (by omega)
      have hqb : q ≤ 1125899906842624 := by omega
      have hq2b : q2 ≤ 2251799813685248 := by omega
      have hr2b : r2 < 2 * c := by omega
      obtain ⟨A, hA⟩ : ∃ A, A = a / 2 ^ i := ⟨_, rfl⟩
      have hAb : A ≤ 1125899906842624 := by rw [hA]; exact Nat.le_trans (Nat.div_le_self _ _) ha
      have hAI : (a : Int) / 2 ^ i = (A : Int) := by rw [hA, Int.natCast_ediv, Int.natCast_pow]; rfl
      have hb1 := i64_and1 (A : Int)
      have hA2 := half_pow a i
      rw [← hA] at hA2
      have htw := two_mul_add q c r _ b HI.out
      rw [← hq2, ← hr2] at htw
      have HA := Lib.hid hA
      clear h0 hq hqa hq2 hr2 hA HI
      by_cases hbit : A % 2 = 1
      · have d1 : (bits BinOp.and IntKind.i64 (A : Int) 1 == 1) = true := by rw [hb1]; simp; omega
        obtain ⟨r3, hr3⟩ : ∃ r3, r3 = r2 + b := ⟨_, rfl⟩
        have HJ : Hid (q2 * c + r3 = A * b) := Lib.hid (by rw [hA2, hbit, Nat.add_mul, Nat.one_mul, ← htw, hr3]; omega)
        have x1 : (r2 : Int) + (b : Int) = (r3 : Int) := by omega
        have x2 : IntKind.i64.wrap (r3 : Int) = (r3 : Int) := wrap_i _ (by omega) (by omega)
        have hr3b : r3 < 3 * c := by omega
        clear hr3 htw hA2 hb1 hbit
        go_wp2
        go_loop [8, 9] (fun qv rv => ∃ q' r' : Nat, qv = .int .i64 q' ∧ rv = .int .i64 r' ∧ r' < 3 * c ∧ Hid (q' * c + r' = A * b)) (fun _ rv => (RowKit.intOf rv).toNat)
        case atStart => exact ⟨q2, r3, rfl, rfl, by omega, HJ⟩
        case round =>
          clear HJ
          obtain ⟨q', r', rfl, rfl, hr', HJ⟩ := hrel
          have hqq : q' ≤ 1125899906842624 := Nat.le_trans (over_q HJ.out hb hc) hAb
          by_cases hl : c ≤ r'
          · obtain ⟨r'', hr''⟩ : ∃ r'', r'' = r' - c := ⟨_, rfl⟩
            obtain ⟨q'', hq''⟩ : ∃ q'', q'' = q' + 1 := ⟨_, rfl⟩
            have HJ2 : Hid (q'' * c + r'' = A * b) := Lib.hid (by rw [← HJ.out, hq'', Nat.add_mul, Nat.one_mul]; omega)
            have y1 : (r' : Int) - (c : Int) = (r'' : Int) := by omega
            have y2 : IntKind.i64.wrap (r'' : Int) = (r'' : Int) := wrap_i _ (by omega) (by omega)
            have y3 : (q' : Int) + 1 = (q'' : Int) := by omega
            have y4 : IntKind.i64.wrap (q'' : Int) = (q'' : Int) := wrap_i _ (by omega) (by omega)
            have y5 : (c : Int) ≤ (r' : Int) := by omega
            have y6 : r'' < r' := by omega
            clear hr'' hq'' HJ
            go_wp2
            go_round
            case rel => exact ⟨q'', r'', rfl, rfl, by omega, HJ2⟩
            case measure => simpa [RowKit.intOf] using y6
          · have y5 : ¬ (c : Int) ≤ (r' : Int) := by omega
            have HJ2 : Hid (q' * c + r' = a / 2 ^ i * b) := Lib.hid (by rw [← HA.out]; exact HJ.out)
            clear HJ
            go_wp2
            go_round
            case rel => exact ⟨q', r', i, by omega, rfl, rfl, rfl, by omega, HJ2⟩
            case measure => simp [RowKit.intOf]
      · have d1 : (bits BinOp.and IntKind.i64 (A : Int) 1 == 1) = false := by rw [hb1]; simp; omega
        have HJ : Hid (q2 * c + r2 = A * b) := Lib.hid (by rw [hA2, show A % 2 = 0 by omega, Nat.add_zero, ← htw])
        clear htw hA2 hb1 hbit
        go_wp2
        go_loop [8, 9] (fun qv rv => ∃ q' r' : Nat, qv = .int .i64 q' ∧ rv = .int .i64 r' ∧ r' < 3 * c ∧ Hid (q' * c + r' = A * b)) (fun _ rv => (RowKit.intOf rv).toNat)
        case atStart => exact ⟨q2, r2, rfl, rfl, by omega, HJ⟩
        case round =>
          clear HJ
          obtain ⟨q', r', rfl, rfl, hr', HJ⟩ := hrel
          have hqq : q' ≤ 1125899906842624 := Nat.le_trans (over_q HJ.out hb hc) hAb
          by_cases hl : c ≤ r'
          · obtain ⟨r'', hr''⟩ : ∃ r'', r'' = r' - c := ⟨_, rfl⟩
            obtain ⟨q'', hq''⟩ : ∃ q'', q'' = q' + 1 := ⟨_, rfl⟩
            have HJ2 : Hid (q'' * c + r'' = A * b) := Lib.hid (by rw [← HJ.out, hq'', Nat.add_mul, Nat.one_mul]; omega)
            have y1 : (r' : Int) - (c : Int) = (r'' : Int) := by omega
            have y2 : IntKind.i64.wrap (r'' : Int) = (r'' : Int) := wrap_i _ (by omega) (by omega)
            have y3 : (q' : Int) + 1 = (q'' : Int) := by omega
            have y4 : IntKind.i64.wrap (q'' : Int) = (q'' : Int) := wrap_i _ (by omega) (by omega)
            have y5 : (c : Int) ≤ (r' : Int) := by omega
            have y6 : r'' < r' := by omega
            clear hr'' hq'' HJ
            go_wp2
            go_round
            case rel => exact ⟨q'', r'', rfl, rfl, by omega, HJ2⟩
            case measure => simpa [RowKit.intOf] using y6
          · have y5 : ¬ (c : Int) ≤ (r' : Int) := by omega
            have HJ2 : Hid (q' * c + r' = a / 2 ^ i * b) := Lib.hid (by rw [← HA.out]; exact HJ.out)
            clear HJ
            go_wp2
            go_round
            case rel => exact ⟨q', r', i, by omega, rfl, rfl, rfl, by omega, HJ2⟩
            case measure => simp [RowKit.intOf]

end Go.Proofs.Ytamglmenljgbdaa.Sh
