/-
  What is proved: the contracts of the document's own Divided, Rounded, Abs, Part, Of and Times, and that they are what rate's own functions come to. Conditions: the numbers are of 64 bits.
-/
import Derived.Test.YtibbgihcmcnamaaRaH
import Derived.Test.YtibbgihcmcnamaaRaF
namespace Go.Proofs.Ytibbgihcmcnamaa.Ra
open Go Go.RowKit Go.Lib Go.Proofs

theorem half_div (X den : Nat) (bit : Nat) (hd : 0 < den) (hb : bit < 2) : (2 * X + bit) / den = 2 * (X / den) + (if den ≤ 2 * (X % den) + bit then 1 else 0) ∧ (2 * X + bit) % den = 2 * (X % den) + bit - (if den ≤ 2 * (X % den) + bit then den else 0) := by
  have h1 := Nat.div_add_mod X den
  have h2 := Nat.mod_lt X hd
  generalize X / den = q at h1 ⊢
  generalize X % den = r at h1 h2 ⊢
  have e : 2 * X + bit = den * (2 * q) + (2 * r + bit) := by rw [Nat.mul_left_comm]; omega
  rw [e, Nat.mul_add_div hd, Nat.mul_add_mod]
  by_cases hc : den ≤ 2 * r + bit
  · rw [if_pos hc, if_pos hc]
    have e2 : 2 * r + bit = den * 1 + (2 * r + bit - den) := by omega
    rw [e2, Nat.mul_add_div hd, Nat.mul_add_mod, Nat.div_eq_of_lt (by omega), Nat.mod_eq_of_lt (by omega)]
    omega
  · rw [if_neg hc, if_neg hc, Nat.div_eq_of_lt (by omega), Nat.mod_eq_of_lt (by omega)]
    omega

/-- What Divided tells. -/
def DivPost (a b den : Nat) (w : World) (e : Ending) (w' : World) : Prop :=
  ∃ (wv lf : Nat) (few : Bool), e = .returned (.tuple #[.int .u64 wv, .int .u64 lf, .bool few]) ∧ wv < 18446744073709551616 ∧ lf < den ∧ Hid (few = decide (a * b / den < 4611686018427387904) ∧ (few = true → wv = a * b / den) ∧ lf = a * b % den) ∧ Below w.heap.size w w'

set_option maxHeartbeats 4000000 in
set_option maxRecDepth 100000 in
theorem divided_any (a b den : Nat) (ha : a < 18446744073709551616) (hb : b < 18446744073709551616) (hd : 0 < den) (hd2 : den ≤ 9223372036854775807) (w : World) :
    Calls Try.prog 45 #[.int .u64 a, .int .u64 b, .int .u64 den] w (DivPost a b den w) := by
  go_enter Try.func45, Try.ntmps45
  go_wp2_with fail
  refine (product_any a b ha hb w).mono ?_
  rintro e w1 ⟨f, rfl, HP, hB, hbel, hsz⟩
  have HB := Lib.hid hB
  clear hB
  go_wp2
  go_loop [10, 11, 12, 13] (fun wh lf fw i => ∃ (k wv l : Nat) (few : Bool), k ≤ 128 ∧ wv < 18446744073709551616 ∧ l < den ∧ i = .int .i64 ((k : Int) - 1) ∧ wh = .int .u64 wv ∧ lf = .int .u64 l ∧ fw = .bool few ∧ Hid (few = decide (a * b / 2 ^ k / den < 4611686018427387904) ∧ (few = true → wv = a * b / 2 ^ k / den) ∧ l = a * b / 2 ^ k % den)) (fun _ _ _ i => (RowKit.intOf i + 1).toNat)
  case atStart =>
    have h0 : a * b / 2 ^ 128 = 0 := by
      apply Nat.div_eq_of_lt
      have h6 : a * b < 2 ^ 64 * 2 ^ 64 := Nat.mul_lt_mul'' (by simpa using ha) (by simpa using hb)
      rwa [← Nat.pow_add] at h6
    exact ⟨128, 0, 0, true, by omega, by omega, hd, rfl, rfl, rfl, rfl, Lib.hid (by rw [h0, Nat.zero_div, Nat.zero_mod]; exact ⟨rfl, fun _ => rfl, rfl⟩)⟩
  case round =>
    obtain ⟨k, wv, l, few, hk, hwv, hl, rfl, rfl, rfl, rfl, HI⟩ := hrel
    by_cases hk0 : k = 0
    · subst hk0
      have HN : Hid (few = decide (a * b / den < 4611686018427387904) ∧ (few = true → wv = a * b / den) ∧ l = a * b % den) := Lib.hid (by
        have h := HI.out
        rwa [Nat.pow_zero, Nat.div_one] at h)
      go_wp2
      go_ret3
      exact ⟨wv, l, few, rfl, hwv, hl, HN, hbel⟩
    · obtain ⟨m, rfl⟩ : ∃ m, k = m + 1 := ⟨k - 1, by omega⟩
      rw [show (((m + 1 : Nat) : Int) - 1) = (m : Int) by omega]
      have hc := HB.out.1 m (by omega)
      have hfm := HP.out.2 m (by omega)
      obtain ⟨x, hx⟩ : ∃ x, x = f m := ⟨_, rfl⟩
      rw [← hx] at hc hfm
      have hxm : x = a * b / 2 ^ m % 2 := by rw [hx, ← HP.out.1]; exact (bval_bit f 129 HP.out.2 m (by omega)).symm
      have hT : a * b / 2 ^ m = 2 * (a * b / 2 ^ (m + 1)) + x := by
        rw [div_pow, hxm]; omega
      have hh := half_div (a * b / 2 ^ (m + 1)) den x hd hfm
      rw [← hT] at hh
      have hi := HI.out
      rw [← hi.2.2] at hh
      obtain ⟨l2, hl2⟩ : ∃ l2, l2 = 2 * l + x := ⟨_, rfl⟩
      obtain ⟨l0, hl0⟩ : ∃ l0, l0 = 2 * l := ⟨_, rfl⟩
      obtain ⟨w2, hw2⟩ : ∃ w2, w2 = 2 * wv % 18446744073709551616 := ⟨_, rfl⟩
      obtain ⟨w3, hw3⟩ : ∃ w3, w3 = (w2 + 1) % 18446744073709551616 := ⟨_, rfl⟩
      have u0 : IntKind.u64.wrap (2 * (l : Int)) = (l0 : Int) := by rw [IntKind.wrap_u64]; omega
      have u1 : IntKind.u64.wrap ((l0 : Int) + (x : Int)) = (l2 : Int) := by rw [IntKind.wrap_u64]; omega
      have u2 : IntKind.u64.wrap (2 * (wv : Int)) = (w2 : Int) := by rw [IntKind.wrap_u64]; omega
      have u3 : IntKind.u64.wrap ((w2 : Int) + 1) = (w3 : Int) := by rw [IntKind.wrap_u64]; omega
      have u00 : 2 * (l : Int) = (l0 : Int) := by omega
      have u01 : (l0 : Int) + (x : Int) = (l2 : Int) := by omega
      have b2 : w2 < 18446744073709551616 := by omega
      have b3 : w3 < 18446744073709551616 := by omega
      rw [← hl2] at hh
      have key : ∀ (few2 : Bool), few2 = (few && decide (wv < 2305843009213693952)) → few2 = decide (a * b / 2 ^ m / den < 4611686018427387904) ∧ (few2 = true → wv = a * b / 2 ^ (m + 1) / den ∧ wv < 2305843009213693952) := by
        intro few2 h2
        have e1 : a * b / 2 ^ m / den = 2 * (a * b / 2 ^ (m + 1) / den) + (if den ≤ l2 then 1 else 0) := hh.1
        have i1 := hi.1
        have i2 := hi.2.1
        generalize a * b / 2 ^ (m + 1) / den = W at e1 i1 i2 ⊢
        generalize a * b / 2 ^ m / den = W2 at e1 ⊢
        cases few with
        | false =>
          have : ¬ W < 4611686018427387904 := by simpa using i1
          rw [Bool.false_and] at h2
          subst h2
          refine ⟨?_, fun h => by cases h⟩
          symm
          apply decide_eq_false
          split at e1 <;> omega
        | true =>
          have hw := i2 rfl
          rw [Bool.true_and] at h2
          subst h2
          refine ⟨?_, fun h => ⟨hw, of_decide_eq_true h⟩⟩
          rw [Bool.eq_iff_iff]
          simp only [decide_eq_true_eq]
          split at e1 <;> omega
      have KEY := Lib.hid key
      have HH := Lib.hid hh
      have HW2 := Lib.hid hw2
      have HW3 := Lib.hid hw3
      clear hx hxm hT hh hi hl2 hl0 hw2 hw3 key
      cases few with
      | false =>
        have kk := KEY.out false rfl
        by_cases hc2 : den ≤ l2
        · have HN : Hid (false = decide (a * b / 2 ^ m / den < 4611686018427387904) ∧ (false = true → w3 = a * b / 2 ^ m / den) ∧ l2 - den = a * b / 2 ^ m % den) := Lib.hid ⟨kk.1, fun h => (by cases h), by rw [HH.out.2, if_pos hc2]⟩
          clear kk KEY HI
          go_wp2
          go_round
          case rel => exact ⟨m, w3, l2 - den, false, by omega, b3, by omega, rfl, rfl, congrArg (Value.int IntKind.u64) (by omega), rfl, HN⟩
          case measure => simp [RowKit.intOf]
        · have HN : Hid (false = decide (a * b / 2 ^ m / den < 4611686018427387904) ∧ (false = true → w2 = a * b / 2 ^ m / den) ∧ l2 = a * b / 2 ^ m % den) := Lib.hid ⟨kk.1, fun h => (by cases h), by rw [HH.out.2, if_neg hc2]; omega⟩
          clear kk KEY HI
          go_wp2
          go_round
          case rel => exact ⟨m, w2, l2, false, by omega, b2, by omega, rfl, rfl, rfl, rfl, HN⟩
          case measure => simp [RowKit.intOf]
      | true =>
        by_cases hw61 : wv < 2305843009213693952
        · have hd61 : decide ((wv : Int) < 2305843009213693952) = true := decide_eq_true (by omega)
          have kk := KEY.out true (by rw [decide_eq_true hw61]; rfl)
          have kw := (kk.2 rfl).1
          by_cases hc2 : den ≤ l2
          · have HN : Hid (true = decide (a * b / 2 ^ m / den < 4611686018427387904) ∧ (true = true → w3 = a * b / 2 ^ m / den) ∧ l2 - den = a * b / 2 ^ m % den) := Lib.hid ⟨kk.1, fun _ => by rw [HH.out.1, if_pos hc2, ← kw, HW3.out, HW2.out]; omega, by rw [HH.out.2, if_pos hc2]⟩
            clear kk KEY HI kw
            go_wp2
            go_round
            case rel => exact ⟨m, w3, l2 - den, true, by omega, b3, by omega, rfl, rfl, congrArg (Value.int IntKind.u64) (by omega), rfl, HN⟩
            case measure => simp [RowKit.intOf]
          · have HN : Hid (true = decide (a * b / 2 ^ m / den < 4611686018427387904) ∧ (true = true → w2 = a * b / 2 ^ m / den) ∧ l2 = a * b / 2 ^ m % den) := Lib.hid ⟨kk.1, fun _ => by rw [HH.out.1, if_neg hc2, ← kw, HW2.out]; omega, by rw [HH.out.2, if_neg hc2]; omega⟩
            clear kk KEY HI kw
            go_wp2
            go_round
            case rel => exact ⟨m, w2, l2, true, by omega, b2, by omega, rfl, rfl, rfl, rfl, HN⟩
            case measure => simp [RowKit.intOf]
        · have hd61 : decide ((wv : Int) < 2305843009213693952) = false := decide_eq_false (by omega)
          have kk := KEY.out false (by rw [decide_eq_false hw61]; rfl)
          by_cases hc2 : den ≤ l2
          · have HN : Hid (false = decide (a * b / 2 ^ m / den < 4611686018427387904) ∧ (false = true → w3 = a * b / 2 ^ m / den) ∧ l2 - den = a * b / 2 ^ m % den) := Lib.hid ⟨kk.1, fun h => (by cases h), by rw [HH.out.2, if_pos hc2]⟩
            clear kk KEY HI
            go_wp2
            go_round
            case rel => exact ⟨m, w3, l2 - den, false, by omega, b3, by omega, rfl, rfl, congrArg (Value.int IntKind.u64) (by omega), rfl, HN⟩
            case measure => simp [RowKit.intOf]
          · have HN : Hid (false = decide (a * b / 2 ^ m / den < 4611686018427387904) ∧ (false = true → w2 = a * b / 2 ^ m / den) ∧ l2 = a * b / 2 ^ m % den) := Lib.hid ⟨kk.1, fun h => (by cases h), by rw [HH.out.2, if_neg hc2]; omega⟩
            clear kk KEY HI
            go_wp2
            go_round
            case rel => exact ⟨m, w2, l2, false, by omega, b2, by omega, rfl, rfl, rfl, rfl, HN⟩
            case measure => simp [RowKit.intOf]

end Go.Proofs.Ytibbgihcmcnamaa.Ra
