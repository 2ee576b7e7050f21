/-
  What is proved: the contracts of the document's letter, digit, inner, sign and run. Conditions: texts are shorter than 2^62 bytes.
-/
import Derived.Test.YtlfcmelencdghaaDoorLxF
namespace Go.Proofs.YtlfcmelencdghaaDoor
open Go Go.RowKit Go.Lib Go.Proofs
set_option linter.unusedVariables false

theorem digit_any (b : UInt8) (w : World) : Calls Tryd.prog 18 #[.int .u8 (b.toNat : Int)] w fun e w' => e = .returned (.bool (isDg b)) ∧ w = w' := by
  have hb := b.toNat_lt
  by_cases h1 : 48 ≤ b.toNat
  · have i1 : (48 : Int) ≤ (b.toNat : Int) := by omega
    by_cases h2 : b.toNat ≤ 57
    · have i2 : (b.toNat : Int) ≤ 57 := by omega
      rw [show isDg b = true by simp [isDg, h1, h2]]
      go_enter Tryd.func18, Tryd.ntmps18
      go_wp2
      go_ret
      exact ⟨rfl, rfl⟩
    · have i2 : ¬ (b.toNat : Int) ≤ 57 := by omega
      rw [show isDg b = false by simp [isDg, h2]]
      go_enter Tryd.func18, Tryd.ntmps18
      go_wp2
      go_ret
      exact ⟨rfl, rfl⟩
  · have i1 : ¬ (48 : Int) ≤ (b.toNat : Int) := by omega
    have d1 : decide ((48 : Int) ≤ (b.toNat : Int)) = false := by simpa using i1
    rw [show isDg b = false by simp [isDg, h1]]
    go_enter Tryd.func18, Tryd.ntmps18
    go_wp2
    go_ret
    exact ⟨rfl, rfl⟩
theorem letter_any (b : UInt8) (w : World) : Calls Tryd.prog 16 #[.int .u8 (b.toNat : Int)] w fun e w' => e = .returned (.bool (isLt b)) ∧ w = w' := by
  have hb := b.toNat_lt
  by_cases h1 : 97 ≤ b.toNat
  · have i1 : (97 : Int) ≤ (b.toNat : Int) := by omega
    by_cases h2 : b.toNat ≤ 122
    · have i2 : (b.toNat : Int) ≤ 122 := by omega
      rw [show isLt b = true by simp [isLt, h1, h2]]
      go_enter Tryd.func16, Tryd.ntmps16
      go_wp2
      go_ret
      exact ⟨rfl, rfl⟩
    · have i2 : ¬ (b.toNat : Int) ≤ 122 := by omega
      rw [show isLt b = false by simp [isLt, h2]]
      go_enter Tryd.func16, Tryd.ntmps16
      go_wp2
      go_ret
      exact ⟨rfl, rfl⟩
  · have i1 : ¬ (97 : Int) ≤ (b.toNat : Int) := by omega
    have d1 : decide ((97 : Int) ≤ (b.toNat : Int)) = false := by simpa using i1
    rw [show isLt b = false by simp [isLt, h1]]
    go_enter Tryd.func16, Tryd.ntmps16
    go_wp2
    go_ret
    exact ⟨rfl, rfl⟩
theorem inner_any (b : UInt8) (w : World) : Calls Tryd.prog 17 #[.int .u8 (b.toNat : Int)] w fun e w' => e = .returned (.bool (isIn b)) ∧ w = w' := by
  have HL := Lib.hid (letter_any b w)
  have HD := Lib.hid (digit_any b w)
  unfold isIn
  have d46 : ((b.toNat : Int) == 46) = decide (b.toNat = 46) := by rw [Bool.eq_iff_iff]; simp; omega
  have d95 : ((b.toNat : Int) == 95) = decide (b.toNat = 95) := by rw [Bool.eq_iff_iff]; simp; omega
  have d58 : ((b.toNat : Int) == 58) = decide (b.toNat = 58) := by rw [Bool.eq_iff_iff]; simp; omega
  generalize decide (b.toNat = 46) = x46 at d46 ⊢
  generalize decide (b.toNat = 95) = x95 at d95 ⊢
  generalize decide (b.toNat = 58) = x58 at d58 ⊢
  generalize isLt b = xl at HL ⊢
  generalize isDg b = xd at HD ⊢
  cases xl
  case true =>
    go_enter Tryd.func17, Tryd.ntmps17
    go_wp2_with fail
    refine (HL.out).mono ?_
    rintro e w1 ⟨rfl, rfl⟩
    go_wp2
    go_ret
    exact ⟨rfl, rfl⟩
  case false =>
    cases xd
    case true =>
      go_enter Tryd.func17, Tryd.ntmps17
      go_wp2_with fail
      refine (HL.out).mono ?_
      rintro e w1 ⟨rfl, rfl⟩
      go_wp2_with fail
      refine (HD.out).mono ?_
      rintro e w1 ⟨rfl, rfl⟩
      go_wp2
      go_ret
      exact ⟨rfl, rfl⟩
    case false =>
      cases x46 <;> cases x95 <;> cases x58
      all_goals
        go_enter Tryd.func17, Tryd.ntmps17
        go_wp2_with fail
        refine (HL.out).mono ?_
        rintro e w1 ⟨rfl, rfl⟩
        go_wp2_with fail
        refine (HD.out).mono ?_
        rintro e w1 ⟨rfl, rfl⟩
        go_wp2
        go_ret
        exact ⟨rfl, rfl⟩

theorem sg_of {b : UInt8} : ∀ k : Nat, k < 8 → ((⟨#[43, 45, 42, 40, 41, 44, 60, 61]⟩ : ByteArray).data.toList.getD k 0).toNat = b.toNat → isSg b = true := by
  intro k hk h
  have e : k = 0 ∨ k = 1 ∨ k = 2 ∨ k = 3 ∨ k = 4 ∨ k = 5 ∨ k = 6 ∨ k = 7 := by omega
  rcases e with rfl | rfl | rfl | rfl | rfl | rfl | rfl | rfl
  all_goals
    have h := UInt8.toNat_inj.1 h
    rw [← h]
    decide
theorem sg_not {b : UInt8} (h : ∀ k : Nat, k < 8 → ((⟨#[43, 45, 42, 40, 41, 44, 60, 61]⟩ : ByteArray).data.toList.getD k 0).toNat ≠ b.toNat) : isSg b = false := by
  have h0 := h 0 (by omega)
  have h1 := h 1 (by omega)
  have h2 := h 2 (by omega)
  have h3 := h 3 (by omega)
  have h4 := h 4 (by omega)
  have h5 := h 5 (by omega)
  have h6 := h 6 (by omega)
  have h7 := h 7 (by omega)
  simp at h0 h1 h2 h3 h4 h5 h6 h7
  simp only [isSg, Bool.or_eq_false_iff, decide_eq_false_iff_not]
  omega
set_option maxHeartbeats 1000000 in
theorem sign_any (b : UInt8) (w : World) : Calls Tryd.prog 20 #[.int .u8 (b.toNat : Int)] w fun e w' => e = .returned (.bool (isSg b)) ∧ w = w' := by
  obtain ⟨R, hR⟩ : ∃ R, R = isSg b := ⟨_, rfl⟩
  rw [← hR]
  have HR := Lib.hid hR
  clear hR
  go_enter Tryd.func20, Tryd.ntmps20
  go_wp2
  go_loop [4] (fun iv => ∃ k : Nat, k ≤ 8 ∧ iv = .int .i64 k ∧ Hid (∀ j, j < k → ((⟨#[43, 45, 42, 40, 41, 44, 60, 61]⟩ : ByteArray).data.toList.getD j 0).toNat ≠ b.toNat)) (fun iv => 8 - (RowKit.intOf iv).toNat)
  case atStart => exact ⟨0, by omega, rfl, Lib.hid (fun j hj => absurd hj (Nat.not_lt_zero _))⟩
  case round =>
    obtain ⟨k, hk, rfl, HA⟩ := hrel
    by_cases hlt : k < 8
    · have hlt2 : k < (⟨#[43, 45, 42, 40, 41, 44, 60, 61]⟩ : ByteArray).size := hlt
      have hg : (⟨#[43, 45, 42, 40, 41, 44, 60, 61]⟩ : ByteArray).data.toList.getD k 0 = (⟨#[43, 45, 42, 40, 41, 44, 60, 61]⟩ : ByteArray)[k] := by
        rw [List.getD_eq_getElem?_getD, List.getElem?_eq_getElem hlt2]; rfl
      by_cases hb : (⟨#[43, 45, 42, 40, 41, 44, 60, 61]⟩ : ByteArray)[k].toNat = b.toNat
      · have d1 : (((⟨#[43, 45, 42, 40, 41, 44, 60, 61]⟩ : ByteArray)[k].toNat : Int) == (b.toNat : Int)) = true := by simp [hb]
        obtain rfl : R = true := by rw [HR.out]; exact sg_of k hlt (by rw [hg]; exact hb)
        clear hb hg
        go_wp2
        go_ret
        exact ⟨rfl, rfl⟩
      · have d1 : (((⟨#[43, 45, 42, 40, 41, 44, 60, 61]⟩ : ByteArray)[k].toNat : Int) == (b.toNat : Int)) = false := by simp; omega
        have HA2 : Hid (∀ j, j < k + 1 → ((⟨#[43, 45, 42, 40, 41, 44, 60, 61]⟩ : ByteArray).data.toList.getD j 0).toNat ≠ b.toNat) := Lib.hid (fun j hj => by
          by_cases e : j = k
          · rw [e, hg]; exact hb
          · exact HA.out j (by omega))
        clear hb hg
        go_wp2
        go_round
        case rel => exact ⟨k + 1, by omega, by go_num, HA2⟩
        case measure => simp [RowKit.intOf]; omega
    · obtain rfl : R = false := by rw [HR.out]; exact sg_not (fun j hj => HA.out j (by omega))
      have i1 : ¬ (k : Int) < 8 := by omega
      go_wp2
      go_ret
      exact ⟨rfl, rfl⟩

set_option maxHeartbeats 1000000 in
theorem run_any (s : ByteArray) (hs : s.size ≤ 4611686018427387904) (a : Nat) (ha : a ≤ s.size) (w : World) :
    Calls Tryd.prog 28 #[.string s, .int .i64 (a : Int)] w fun e w' => e = .returned (.int .i64 (runL isDg (s.data.toList.drop a) : Int)) ∧ w = w' := by
  obtain ⟨R, hR⟩ : ∃ R, R = runL isDg (s.data.toList.drop a) := ⟨_, rfl⟩
  rw [← hR]
  have HR := Lib.hid hR
  clear hR
  go_enter Tryd.func28, Tryd.ntmps28
  go_wp2
  go_loop [5] (fun nv => ∃ n : Nat, a + n ≤ s.size ∧ nv = .int .i64 n ∧ Hid (R = n + runL isDg (s.data.toList.drop (a + n)))) (fun nv => s.size - a - (RowKit.intOf nv).toNat)
  case atStart => exact ⟨0, by omega, rfl, Lib.hid (by rw [HR.out]; simp)⟩
  case round =>
    clear HR
    obtain ⟨n, hn, rfl, HR⟩ := hrel
    by_cases hlt : a + n < s.size
    · have hrd := Lib.hid (run_drop (p := isDg) hlt)
      have hCall := Lib.hid (digit_any s[a + n] w)
      cases hp : isDg s[a + n]
      · rw [hp] at hCall
        obtain rfl : R = n := by rw [HR.out, hrd.out, hp]; simp
        clear hp
        go_wp2_with fail
        refine (hCall.out).mono ?_
        rintro e w1 ⟨rfl, rfl⟩
        go_wp2
        go_ret
        exact ⟨rfl, rfl⟩
      · rw [hp] at hCall
        have HR2 : Hid (R = (n + 1) + runL isDg (s.data.toList.drop (a + (n + 1)))) := Lib.hid (by rw [HR.out, hrd.out, hp, show a + (n + 1) = a + n + 1 by omega]; simp; omega)
        clear hp
        go_wp2_with fail
        refine (hCall.out).mono ?_
        rintro e w1 ⟨rfl, rfl⟩
        go_wp2
        go_round
        case rel => exact ⟨n + 1, by omega, by go_num, HR2⟩
        case measure => simp [RowKit.intOf]; omega
    · obtain rfl : R = n := by rw [HR.out, run_end (by omega)]; omega
      go_wp2
      go_ret
      exact ⟨rfl, rfl⟩

end Go.Proofs.YtlfcmelencdghaaDoor
