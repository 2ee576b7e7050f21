/-
  What is proved: the contracts of the document's own Rounded, Abs, Part, Of and Times: what they come to is what rate's own functions come to. Conditions: the numbers are of 64 bits.
-/
import Derived.Test.YtibbgihcmcnamaaRaI
import Derived.Test.YtibbgihcmcnamaaRaG
namespace Go.Proofs.Ytibbgihcmcnamaa.Ra
open Go Go.RowKit Go.Lib Go.Proofs

theorem abs_any (n : Int) (h1 : -9223372036854775808 ≤ n) (h2 : n ≤ 9223372036854775807) (w : World) : Calls Try.prog 46 #[.int .i64 n] w fun e w' => e = .returned (.int .u64 (n.natAbs : Int)) ∧ w = w' := by
  by_cases hn : n < 0
  · have hwr : IntKind.u64.wrap (-IntKind.u64.wrap n) = (n.natAbs : Int) := by rw [IntKind.wrap_u64, IntKind.wrap_u64]; omega
    go_enter Try.func46, Try.ntmps46
    go_wp2
    go_ret
    exact ⟨rfl, rfl⟩
  · have hwr : IntKind.u64.wrap n = (n.natAbs : Int) := by rw [IntKind.wrap_u64]; omega
    go_enter Try.func46, Try.ntmps46
    go_wp2
    go_ret
    exact ⟨rfl, rfl⟩

def rdV (wv lf den : Nat) (below : Bool) (mode : Int) : Nat := (wv + (if awayB mode below (decide (wv % 2 = 1)) lf den = true then 1 else 0)) % 18446744073709551616

set_option maxHeartbeats 4000000 in
set_option maxRecDepth 100000 in
theorem rounded_up (wv lf den : Nat) (below : Bool) (mode : Int) (hw : wv < 18446744073709551616) (hl : lf < den) (hd : den ≤ 9223372036854775807) (m0 : 0 ≤ mode) (m4 : mode ≤ 4) (w : World) :
    Calls Try.prog 47 #[.int .u64 wv, .int .u64 lf, .int .u64 den, .bool below, .int .i64 mode] w fun e w' => e = .returned (.int .u64 (rdV wv lf den below mode : Int)) ∧ w = w' := by
  obtain ⟨R, hR⟩ : ∃ R, R = rdV wv lf den below mode := ⟨_, rfl⟩
  rw [← hR]
  unfold rdV at hR
  obtain ⟨w1, hw1⟩ : ∃ w1, w1 = (wv + 1) % 18446744073709551616 := ⟨_, rfl⟩
  have u1 : IntKind.u64.wrap ((wv : Int) + 1) = (w1 : Int) := by rw [IntKind.wrap_u64]; omega
  have hyes : ∀ o, awayB mode below o lf den = true → (decide (wv % 2 = 1) = o) → R = w1 := by
    intro o h1 h2
    rw [hR, h2, h1, if_pos rfl, hw1]
  have hno : ∀ o, awayB mode below o lf den = false → (decide (wv % 2 = 1) = o) → R = wv := by
    intro o h1 h2
    rw [hR, h2, h1, if_neg (by simp), Nat.add_zero, Nat.mod_eq_of_lt hw]
  have HY := Lib.hid hyes
  have HN := Lib.hid hno
  clear hR hw1 hyes hno
  have hm : mode = 0 ∨ mode = 1 ∨ mode = 2 ∨ mode = 3 ∨ mode = 4 := by omega
  rcases hm with rfl | rfl | rfl | rfl | rfl
  · obtain rfl : R = wv := HN.out _ rfl rfl
    clear HY HN
    go_enter Try.func47, Try.ntmps47
    go_wp2
    go_ret
    exact ⟨rfl, rfl⟩
  · by_cases c : den ≤ 2 * lf
    · obtain rfl : R = w1 := HY.out _ (show decide (den ≤ 2 * lf) = true from decide_eq_true c) rfl
      have c1 : (den : Int) - (lf : Int) ≤ (lf : Int) := by omega
      clear HY HN
      go_enter Try.func47, Try.ntmps47
      go_wp2
      go_ret
      exact ⟨rfl, rfl⟩
    · obtain rfl : R = wv := HN.out _ (show decide (den ≤ 2 * lf) = false from decide_eq_false c) rfl
      have c1 : ¬ ((den : Int) - (lf : Int) ≤ (lf : Int)) := by omega
      clear HY HN
      go_enter Try.func47, Try.ntmps47
      go_wp2
      go_ret
      exact ⟨rfl, rfl⟩
  · by_cases c : den < 2 * lf
    · have hx : ∀ o, awayB 2 below o lf den = true := by
        intro o
        cases o
        · exact decide_eq_true c
        · exact decide_eq_true (by omega)
      obtain rfl : R = w1 := HY.out _ (hx _) rfl
      have c1 : (den : Int) - (lf : Int) < (lf : Int) := by omega
      clear HY HN hx
      go_enter Try.func47, Try.ntmps47
      go_wp2
      go_ret
      exact ⟨rfl, rfl⟩
    · have c1 : ¬ ((den : Int) - (lf : Int) < (lf : Int)) := by omega
      by_cases c2 : den = 2 * lf
      · have c3 : ((lf : Int) == (den : Int) - (lf : Int)) = true := beq_iff_eq.2 (by omega)
        by_cases ho : wv % 2 = 1
        · obtain rfl : R = w1 := HY.out true (show decide (den ≤ 2 * lf) = true from decide_eq_true (by omega)) (decide_eq_true ho)
          have c4 : ((wv : Int) % 2 == 1) = true := beq_iff_eq.2 (by omega)
          clear HY HN c2 ho
          go_enter Try.func47, Try.ntmps47
          go_wp2
          go_ret
          exact ⟨rfl, rfl⟩
        · have c4 : ((wv : Int) % 2 == 1) = false := beq_eq_false_iff_ne.2 (by omega)
          obtain rfl : R = wv := HN.out false (show decide (den < 2 * lf) = false from decide_eq_false c) (decide_eq_false ho)
          clear HY HN c2 ho
          go_enter Try.func47, Try.ntmps47
          go_wp2
          go_ret
          exact ⟨rfl, rfl⟩
      · have c3 : ((lf : Int) == (den : Int) - (lf : Int)) = false := beq_eq_false_iff_ne.2 (by omega)
        have hx : ∀ o, awayB 2 below o lf den = false := by
          intro o
          cases o
          · exact decide_eq_false c
          · exact decide_eq_false (by omega)
        obtain rfl : R = wv := HN.out _ (hx _) rfl
        clear HY HN hx c2
        go_enter Try.func47, Try.ntmps47
        go_wp2
        go_ret
        exact ⟨rfl, rfl⟩
  · by_cases c : 0 < lf
    · obtain rfl : R = w1 := HY.out _ (show decide (0 < lf) = true from decide_eq_true c) rfl
      clear HY HN
      go_enter Try.func47, Try.ntmps47
      go_wp2
      go_ret
      exact ⟨rfl, rfl⟩
    · obtain rfl : R = wv := HN.out _ (show decide (0 < lf) = false from decide_eq_false c) rfl
      clear HY HN
      go_enter Try.func47, Try.ntmps47
      go_wp2
      go_ret
      exact ⟨rfl, rfl⟩
  · cases below
    · obtain rfl : R = wv := HN.out _ rfl rfl
      by_cases c : 0 < lf
      all_goals
        clear HY HN
        go_enter Try.func47, Try.ntmps47
        go_wp2
        go_ret
        exact ⟨rfl, rfl⟩
    · by_cases c : 0 < lf
      · obtain rfl : R = w1 := HY.out _ (show (true && decide (0 < lf)) = true by rw [decide_eq_true c]; rfl) rfl
        clear HY HN
        go_enter Try.func47, Try.ntmps47
        go_wp2
        go_ret
        exact ⟨rfl, rfl⟩
      · obtain rfl : R = wv := HN.out _ (show (true && decide (0 < lf)) = false by rw [decide_eq_false c]; rfl) rfl
        clear HY HN
        go_enter Try.func47, Try.ntmps47
        go_wp2
        go_ret
        exact ⟨rfl, rfl⟩

set_option maxHeartbeats 2000000 in
set_option maxRecDepth 100000 in
theorem rpart_any (c num den mode : Int) (n1 : -9223372036854775808 ≤ num) (n2 : num ≤ 9223372036854775807) (d2 : den ≤ 9223372036854775807) (w : World) :
    Calls Try.prog 40 #[.int .i64 c, .int .i64 num, .int .i64 den, .int .i64 mode] w fun e w' => e = .returned (.tuple #[.int .i64 (partVE c num den mode).1, .int .i64 (partVE c num den mode).2]) ∧ Below w.heap.size w w' := by
  by_cases hf : fitsB c = true
  · obtain ⟨f1, f2⟩ := fitsB_iff.1 hf
    by_cases h0 : den = 0
    · rw [show partVE c num den mode = (0, 22) by simp [partVE, hf, h0]]
      subst h0
      go_enter Try.func40, Try.ntmps40
      go_wp2_with fail
      refine (rfits2_any _ _).mono ?_
      rintro e w' ⟨rfl, rfl⟩
      go_wp2
      go_ret2
      exact ⟨rfl, Below.refl _ _⟩
    have h0b : (den == 0) = false := beq_eq_false_iff_ne.2 h0
    by_cases h1 : den < 0
    · rw [show partVE c num den mode = (0, 2) by simp [partVE, hf, h0, h1]]
      go_enter Try.func40, Try.ntmps40
      go_wp2_with fail
      refine (rfits2_any _ _).mono ?_
      rintro e w' ⟨rfl, rfl⟩
      go_wp2
      go_ret2
      exact ⟨rfl, Below.refl _ _⟩
    by_cases h2 : mode < 0
    · rw [show partVE c num den mode = (0, 11) by simp [partVE, hf, h0, h1, h2]]
      go_enter Try.func40, Try.ntmps40
      go_wp2_with fail
      refine (rfits2_any _ _).mono ?_
      rintro e w' ⟨rfl, rfl⟩
      go_wp2
      go_ret2
      exact ⟨rfl, Below.refl _ _⟩
    by_cases h3 : 4 < mode
    · rw [show partVE c num den mode = (0, 11) by simp [partVE, hf, h0, h1, h3]]
      go_enter Try.func40, Try.ntmps40
      go_wp2_with fail
      refine (rfits2_any _ _).mono ?_
      rintro e w' ⟨rfl, rfl⟩
      go_wp2
      go_ret2
      exact ⟨rfl, Below.refl _ _⟩
    obtain ⟨D, rfl⟩ := Int.eq_ofNat_of_zero_le (show 0 ≤ den by omega)
    have hpv : partVE c num D mode = match portO c num D mode 1125899906842624 with
      | none => (0, 9)
      | some p => (p, 0) := by
        unfold partVE; rw [if_pos hf, if_neg h0, if_neg h1, if_neg (by omega), Int.toNat_natCast]; cases portO c num D mode 1125899906842624 <;> rfl
    obtain ⟨R, hR⟩ : ∃ R, R = partVE c num D mode := ⟨_, rfl⟩
    rw [← hR]
    rw [hpv] at hR
    unfold portO at hR
    have hbe : (!(decide (c < 0) == decide (num < 0))) = belowB c num := rfl
    generalize belowB c num = below at hR hbe
    obtain ⟨a, ha⟩ : ∃ a, a = c.natAbs := ⟨_, rfl⟩
    obtain ⟨b, hb⟩ : ∃ b, b = num.natAbs := ⟨_, rfl⟩
    have ha2 : a < 18446744073709551616 := by omega
    have hb2 : b < 18446744073709551616 := by omega
    have HS1 := abs_any c (by omega) (by omega)
    have HS2 := abs_any num n1 n2
    rw [← ha] at HS1 hR
    rw [← hb] at HS2 hR
    have H1 := Lib.hid HS1
    have H2 := Lib.hid HS2
    have H3 := Lib.hid (divided_any a b D ha2 hb2 (by omega) (by omega))
    have HR := Lib.hid hR
    clear HS1 HS2 ha hb hR hpv
    go_enter Try.func40, Try.ntmps40
    go_wp2_with fail
    refine (rfits2_any _ _).mono ?_
    rintro e w' ⟨rfl, rfl⟩
    go_wp2_with fail
    refine (H1.out _).mono ?_
    rintro e w' ⟨rfl, rfl⟩
    go_wp2_with fail
    refine (H2.out _).mono ?_
    rintro e w' ⟨rfl, rfl⟩
    go_wp2_with fail
    refine (H3.out _).mono ?_
    rintro e w1 ⟨wv, lf, few, rfl, hwv, hlf, HX, hb1⟩
    go_wp2_with fail
    refine (rounded_up wv lf D below mode hwv hlf (by omega) (by omega) (by omega) _).mono ?_
    rintro e w' ⟨rfl, rfl⟩
    obtain ⟨n, hn⟩ : ∃ n, n = rdV wv lf D below mode := ⟨_, rfl⟩
    rw [← hn]
    have hn64 : n < 18446744073709551616 := by rw [hn]; unfold rdV; exact Nat.mod_lt _ (by decide)
    have hx := HX.out
    cases few with
    | false =>
      have hbig : ¬ a * b / D < 4611686018427387904 := by simpa using hx.1
      obtain rfl : R = (0, 9) := by
        rw [HR.out]
        have := roundQ_ge (a * b) D mode below
        rw [if_neg (by omega)]
      clear HX HR hx hn hbig
      go_wp2
      go_ret2
      exact ⟨rfl, hb1⟩
    | true =>
      have hlt : a * b / D < 4611686018427387904 := by simpa using hx.1
      have hq : n = roundQ (a * b) D mode below := by
        rw [hn]; unfold rdV roundQ
        rw [hx.2.1 rfl, hx.2.2]
        apply Nat.mod_eq_of_lt
        split <;> omega
      have hR := HR.out
      rw [← hq] at hR
      clear HX HR hx hn hq hlt
      by_cases hm : 1125899906842624 < n
      · rw [if_neg (by omega)] at hR
        obtain rfl : R = (0, 9) := hR
        go_wp2
        go_ret2
        exact ⟨rfl, hb1⟩
      · rw [if_pos (by omega)] at hR
        cases below
        · obtain rfl : R = ((n : Int), 0) := hR
          go_wp2
          go_ret2
          exact ⟨rfl, hb1⟩
        · obtain rfl : R = (-(n : Int), 0) := hR
          go_wp2
          go_ret2
          exact ⟨rfl, hb1⟩
  · simp only [Bool.not_eq_true] at hf
    rw [show partVE c num den mode = (0, 2) by simp [partVE, hf]]
    go_enter Try.func40, Try.ntmps40
    go_wp2_with fail
    refine (rfits2_any _ _).mono ?_
    rintro e w' ⟨rfl, rfl⟩
    go_wp2
    go_ret2
    exact ⟨rfl, Below.refl _ _⟩

end Go.Proofs.Ytibbgihcmcnamaa.Ra
