/-
  What is proved: what a name is, and the contracts of word.isDigit, isNameByte, IsName and of the document's Word. Conditions: texts are shorter than 2^62 bytes.
-/
import Derived.Test.YtaeldoipflcknaaRows
import Derived.Test.YtaeldoipflcknaaChecked
import Derived.WalkKit
import Derived.WalkSpells
import Derived.WalkLawsBesides
import Derived.BigCall
import Derived.BigGuard
import Derived.Lib.Hide
import Derived.Lib.Walk
import Derived.Deep.QuietTactic
import Derived.BigQuiet
import Derived.LoopTactic
namespace Go.Proofs.Ytaeldoipflcknaa
open Go Go.RowKit Go.Lib Go.Proofs
set_option linter.unusedVariables false

/-- A byte that a name may have. -/
def okN (b : UInt8) : Bool := (decide (97 ≤ b.toNat) && decide (b.toNat ≤ 122)) || (decide (48 ≤ b.toNat) && decide (b.toNat ≤ 57)) || decide (b.toNat = 46) || decide (b.toNat = 95) || decide (b.toNat = 45)
/-- A name. -/
def nameL (l : List UInt8) : Bool := decide (0 < l.length) && decide (l.length < 33) && decide (l ≠ [45]) && l.all okN

theorem dg_any (b : UInt8) (w : World) : Calls Try.prog 44 #[.int .u8 (b.toNat : Int)] w fun e w' => e = .returned (.bool (decide (48 ≤ b.toNat) && decide (b.toNat ≤ 57))) ∧ w = w' := by
  have hb := b.toNat_lt
  by_cases h1 : 48 ≤ b.toNat
  · have i1 : (48 : Int) ≤ (b.toNat : Int) := by omega
    by_cases h2 : b.toNat ≤ 57
    · have i2 : (b.toNat : Int) ≤ 57 := by omega
      rw [show (decide (48 ≤ b.toNat) && decide (b.toNat ≤ 57)) = true by simp [h1, h2]]
      go_enter Try.func44, Try.ntmps44
      go_wp2
      go_ret
      exact ⟨rfl, rfl⟩
    · have i2 : ¬ (b.toNat : Int) ≤ 57 := by omega
      rw [show (decide (48 ≤ b.toNat) && decide (b.toNat ≤ 57)) = false by simp [h2]]
      go_enter Try.func44, Try.ntmps44
      go_wp2
      go_ret
      exact ⟨rfl, rfl⟩
  · have i1 : ¬ (48 : Int) ≤ (b.toNat : Int) := by omega
    have d1 : decide ((48 : Int) ≤ (b.toNat : Int)) = false := by simpa using i1
    rw [show (decide (48 ≤ b.toNat) && decide (b.toNat ≤ 57)) = false by simp [h1]]
    go_enter Try.func44, Try.ntmps44
    go_wp2
    go_ret
    exact ⟨rfl, rfl⟩

/-- The ways of a byte: what each test says. -/
theorem okN_ways (b : UInt8) :
    (okN b = true ∧ decide ((97 : Int) ≤ (b.toNat : Int)) = true ∧ decide ((b.toNat : Int) ≤ 122) = true) ∨
    (okN b = false ∧ decide ((97 : Int) ≤ (b.toNat : Int)) = true ∧ decide ((b.toNat : Int) ≤ 122) = false ∧ decide ((48 : Int) ≤ (b.toNat : Int)) = true ∧ decide ((b.toNat : Int) ≤ 57) = false ∧ ((b.toNat : Int) == 46) = false ∧ ((b.toNat : Int) == 95) = false ∧ ((b.toNat : Int) == 45) = false) ∨
    (okN b = true ∧ decide ((97 : Int) ≤ (b.toNat : Int)) = false ∧ decide ((48 : Int) ≤ (b.toNat : Int)) = true ∧ decide ((b.toNat : Int) ≤ 57) = true) ∨
    (okN b = true ∧ decide ((97 : Int) ≤ (b.toNat : Int)) = false ∧ decide ((48 : Int) ≤ (b.toNat : Int)) = false ∧ ((b.toNat : Int) == 46) = true) ∨
    (okN b = true ∧ decide ((97 : Int) ≤ (b.toNat : Int)) = false ∧ decide ((48 : Int) ≤ (b.toNat : Int)) = true ∧ decide ((b.toNat : Int) ≤ 57) = false ∧ ((b.toNat : Int) == 46) = false ∧ ((b.toNat : Int) == 95) = true) ∨
    (okN b = true ∧ decide ((97 : Int) ≤ (b.toNat : Int)) = false ∧ decide ((48 : Int) ≤ (b.toNat : Int)) = false ∧ ((b.toNat : Int) == 46) = false ∧ ((b.toNat : Int) == 95) = false ∧ ((b.toNat : Int) == 45) = true) ∨
    (okN b = false ∧ decide ((97 : Int) ≤ (b.toNat : Int)) = false ∧ decide ((48 : Int) ≤ (b.toNat : Int)) = false ∧ ((b.toNat : Int) == 46) = false ∧ ((b.toNat : Int) == 95) = false ∧ ((b.toNat : Int) == 45) = false) ∨
    (okN b = false ∧ decide ((97 : Int) ≤ (b.toNat : Int)) = false ∧ decide ((48 : Int) ≤ (b.toNat : Int)) = true ∧ decide ((b.toNat : Int) ≤ 57) = false ∧ ((b.toNat : Int) == 46) = false ∧ ((b.toNat : Int) == 95) = false ∧ ((b.toNat : Int) == 45) = false) := by
  have hb := b.toNat_lt
  simp only [okN, Bool.or_eq_true, Bool.or_eq_false_iff, Bool.and_eq_true, Bool.and_eq_false_iff, decide_eq_true_eq, decide_eq_false_iff_not, beq_iff_eq, beq_eq_false_iff_ne]
  omega

set_option maxHeartbeats 1000000 in
theorem nb_any (b : UInt8) (w : World) : Calls Try.prog 41 #[.int .u8 (b.toNat : Int)] w fun e w' => e = .returned (.bool (okN b)) ∧ w = w' := by
  have HD := Lib.hid (dg_any b w)
  have HE : Hid ((decide (48 ≤ b.toNat) && decide (b.toNat ≤ 57)) = (decide ((48 : Int) ≤ (b.toNat : Int)) && decide ((b.toNat : Int) ≤ 57))) := Lib.hid (by
    rw [Bool.eq_iff_iff]; simp only [Bool.and_eq_true, decide_eq_true_eq]; omega)
  rw [HE.out] at HD
  clear HE
  rcases okN_ways b with ⟨o, a1, a2⟩ | ⟨o, a1, a2, g1, g2, e1, e2, e3⟩ | ⟨o, a1, g1, g2⟩ | ⟨o, a1, g1, e1⟩ | ⟨o, a1, g1, g2, e1, e2⟩ | ⟨o, a1, g1, e1, e2, e3⟩ | ⟨o, a1, g1, e1, e2, e3⟩ | ⟨o, a1, g1, g2, e1, e2, e3⟩
  all_goals
    rw [o]
    clear o
    try rw [g1] at HD
    try rw [g2] at HD
    try rw [Bool.and_false] at HD
    try rw [Bool.false_and] at HD
    try rw [Bool.and_true] at HD
    try clear g1
    try clear g2
    go_enter Try.func41, Try.ntmps41
    go_wp2_with (first | (go_at_call 44; refine (HD.out).mono ?_; rintro e w1 ⟨rfl, rfl⟩))
    go_ret
    exact ⟨rfl, rfl⟩

end Go.Proofs.Ytaeldoipflcknaa
