/-
  What is proved: the contracts of lex.isLetter, isDigit, isNameByte, isSign, isBlank, and of looker's closure. Conditions: texts are shorter than 2^62 bytes.
-/
import Derived.Test.YtlfcmelencdghaaDoorLxMath
import Derived.Test.YtlfcmelencdghaaDoorChecked
import Derived.WalkKit
import Derived.BigCall
import Derived.BigGuard
import Derived.Lib.Hide
import Derived.Lib.Walk
import Derived.Deep.QuietTactic
import Derived.BigQuiet
import Derived.LoopTactic
namespace Go.Proofs.YtlfcmelencdghaaDoor
open Go Go.RowKit Go.Proofs
set_option linter.unusedVariables false

theorem isDigit_any (b : UInt8) (w : World) : Calls Tryd.prog 26 #[.int .u8 (b.toNat : Int)] w fun e w' => e = .returned (.bool (isDg b)) ∧ w = w' := by
  have hb := b.toNat_lt
  by_cases h1 : 48 ≤ b.toNat
  · have i1 : (48 : Int) ≤ (b.toNat : Int) := by omega
    by_cases h2 : b.toNat ≤ 57
    · have i2 : (b.toNat : Int) ≤ 57 := by omega
      rw [show isDg b = true by simp [isDg, h1, h2]]
      go_enter Tryd.func26, Tryd.ntmps26
      go_wp2
      go_ret
      exact ⟨rfl, rfl⟩
    · have i2 : ¬ (b.toNat : Int) ≤ 57 := by omega
      rw [show isDg b = false by simp [isDg, h2]]
      go_enter Tryd.func26, Tryd.ntmps26
      go_wp2
      go_ret
      exact ⟨rfl, rfl⟩
  · have i1 : ¬ (48 : Int) ≤ (b.toNat : Int) := by omega
    have d1 : decide ((48 : Int) ≤ (b.toNat : Int)) = false := by simpa using i1
    rw [show isDg b = false by simp [isDg, h1]]
    go_enter Tryd.func26, Tryd.ntmps26
    go_wp2
    go_ret
    exact ⟨rfl, rfl⟩
theorem isLetter_any (b : UInt8) (w : World) : Calls Tryd.prog 24 #[.int .u8 (b.toNat : Int)] w fun e w' => e = .returned (.bool (isLt b)) ∧ w = w' := by
  have hb := b.toNat_lt
  by_cases h1 : 97 ≤ b.toNat
  · have i1 : (97 : Int) ≤ (b.toNat : Int) := by omega
    by_cases h2 : b.toNat ≤ 122
    · have i2 : (b.toNat : Int) ≤ 122 := by omega
      rw [show isLt b = true by simp [isLt, h1, h2]]
      go_enter Tryd.func24, Tryd.ntmps24
      go_wp2
      go_ret
      exact ⟨rfl, rfl⟩
    · have i2 : ¬ (b.toNat : Int) ≤ 122 := by omega
      rw [show isLt b = false by simp [isLt, h2]]
      go_enter Tryd.func24, Tryd.ntmps24
      go_wp2
      go_ret
      exact ⟨rfl, rfl⟩
  · have i1 : ¬ (97 : Int) ≤ (b.toNat : Int) := by omega
    have d1 : decide ((97 : Int) ≤ (b.toNat : Int)) = false := by simpa using i1
    rw [show isLt b = false by simp [isLt, h1]]
    go_enter Tryd.func24, Tryd.ntmps24
    go_wp2
    go_ret
    exact ⟨rfl, rfl⟩
theorem isBlank_any (b : UInt8) (w : World) : Calls Tryd.prog 14 #[.int .u8 (b.toNat : Int)] w fun e w' => e = .returned (.bool (isBl b)) ∧ w = w' := by
  by_cases h1 : b.toNat = 32
  · have i1 : ((b.toNat : Int) == 32) = true := by simp [h1]
    rw [show isBl b = true by simp [isBl, h1]]
    clear h1
    go_enter Tryd.func14, Tryd.ntmps14
    go_wp2
    go_ret
    exact ⟨rfl, rfl⟩
  · have i1 : ((b.toNat : Int) == 32) = false := by simp; omega
    rw [show isBl b = false by simp [isBl, h1]]
    clear h1
    go_enter Tryd.func14, Tryd.ntmps14
    go_wp2
    go_ret
    exact ⟨rfl, rfl⟩

theorem isNameByte_any (b : UInt8) (w : World) : Calls Tryd.prog 25 #[.int .u8 (b.toNat : Int)] w fun e w' => e = .returned (.bool (isIn b)) ∧ w = w' := by
  have HL := Lib.hid (isLetter_any b w)
  have HD := Lib.hid (isDigit_any b w)
  unfold isIn
  have d46 : ((b.toNat : Int) == 46) = decide (b.toNat = 46) := by rw [Bool.eq_iff_iff]; simp; omega
  have d95 : ((b.toNat : Int) == 95) = decide (b.toNat = 95) := by rw [Bool.eq_iff_iff]; simp; omega
  have d58 : ((b.toNat : Int) == 58) = decide (b.toNat = 58) := by rw [Bool.eq_iff_iff]; simp; omega
  generalize decide (b.toNat = 46) = x46 at d46 ⊢
  generalize decide (b.toNat = 95) = x95 at d95 ⊢
  generalize decide (b.toNat = 58) = x58 at d58 ⊢
  generalize isLt b = xl at HL ⊢
  generalize isDg b = xd at HD ⊢
  cases xl
  case true =>
    go_enter Tryd.func25, Tryd.ntmps25
    go_wp2_with fail
    refine (HL.out).mono ?_
    rintro e w1 ⟨rfl, rfl⟩
    go_wp2
    go_ret
    exact ⟨rfl, rfl⟩
  case false =>
    cases xd
    case true =>
      go_enter Tryd.func25, Tryd.ntmps25
      go_wp2_with fail
      refine (HL.out).mono ?_
      rintro e w1 ⟨rfl, rfl⟩
      go_wp2_with fail
      refine (HD.out).mono ?_
      rintro e w1 ⟨rfl, rfl⟩
      go_wp2
      go_ret
      exact ⟨rfl, rfl⟩
    case false =>
      cases x46 <;> cases x95 <;> cases x58
      all_goals
        go_enter Tryd.func25, Tryd.ntmps25
        go_wp2_with fail
        refine (HL.out).mono ?_
        rintro e w1 ⟨rfl, rfl⟩
        go_wp2_with fail
        refine (HD.out).mono ?_
        rintro e w1 ⟨rfl, rfl⟩
        go_wp2
        go_ret
        exact ⟨rfl, rfl⟩

/-- looker hands on a closure that reads the text in a block of its own. -/
theorem looker_any (s : ByteArray) (w : World) : Calls Tryd.prog 13 #[.string s] w fun e w' => e = .returned (.func (.func 23) #[] #[.pointer (some ⟨w.heap.size, 0, none⟩)]) ∧ w' = w.alloc (.cells #[.string s] 9) := by
  go_enter Tryd.func13, Tryd.ntmps13
  go_wp2
  go_ret
  exact ⟨rfl, rfl⟩

end Go.Proofs.YtlfcmelencdghaaDoor
