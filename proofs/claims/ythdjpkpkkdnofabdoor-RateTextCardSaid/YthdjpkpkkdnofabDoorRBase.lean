/-
  What is proved: small facts that the proofs of rate lean on: when an amount fits, and what cents.Fits answers; bytes and digits. Conditions: none.
-/
import Derived.Test.YthdjpkpkkdnofabDoorRows
import Derived.Test.YthdjpkpkkdnofabDoorShelf
import Derived.WalkKit
import Derived.WalkSpells
import Derived.WalkLawsBesides
import Derived.Lib.Hide
import Derived.Lib.ItoaMem
import Derived.Lib.ItoaLen
import Derived.Lib.AppendIntMem
import Derived.Lib.ItoaWalk
namespace Go.Proofs.YthdjpkpkkdnofabDoor
open Go Go.RowKit Go.Lib Go.Proofs

/-- An amount fits. -/
def fitsB (c : Int) : Bool := decide (-1125899906842624 ≤ c) && decide (c ≤ 1125899906842624)
theorem fitsB_yes {c : Int} (h1 : -1125899906842624 ≤ c) (h2 : c ≤ 1125899906842624) : fitsB c = true := by simp [fitsB, h1, h2]
theorem fitsB_no {c : Int} (h : c < -1125899906842624 ∨ 1125899906842624 < c) : fitsB c = false := by
  simp only [fitsB, Bool.and_eq_false_iff, decide_eq_false_iff_not]; omega
theorem fitsB_iff {c : Int} : fitsB c = true ↔ -1125899906842624 ≤ c ∧ c ≤ 1125899906842624 := by simp [fitsB]

theorem fits_any (c : Int) (w : World) : Calls Tryd.prog 16 #[.int .i64 c] w fun e w' => e = .returned (.bool (fitsB c)) ∧ w = w' := by
  by_cases h1 : -1125899906842624 ≤ c
  · by_cases h2 : c ≤ 1125899906842624
    · rw [fitsB_yes h1 h2]
      go_enter Tryd.func16, Tryd.ntmps16
      go_wp2
      go_ret
      exact ⟨rfl, rfl⟩
    · rw [fitsB_no (by omega)]
      go_enter Tryd.func16, Tryd.ntmps16
      go_wp2
      go_ret
      exact ⟨rfl, rfl⟩
  · rw [fitsB_no (by omega)]
    go_enter Tryd.func16, Tryd.ntmps16
    go_wp2
    go_ret
    exact ⟨rfl, rfl⟩

theorem rfits2_any (c : Int) (w : World) : Calls Tryd.prog 8 #[.int .i64 c] w fun e w' => e = .returned (.bool (fitsB c)) ∧ w = w' := by
  by_cases h1 : -1125899906842624 ≤ c
  · by_cases h2 : c ≤ 1125899906842624
    · rw [fitsB_yes h1 h2]
      go_enter Tryd.func8, Tryd.ntmps8
      go_wp2
      go_ret
      exact ⟨rfl, rfl⟩
    · rw [fitsB_no (by omega)]
      go_enter Tryd.func8, Tryd.ntmps8
      go_wp2
      go_ret
      exact ⟨rfl, rfl⟩
  · rw [fitsB_no (by omega)]
    go_enter Tryd.func8, Tryd.ntmps8
    go_wp2
    go_ret
    exact ⟨rfl, rfl⟩

theorem size_len (d : ByteArray) : d.data.toList.length = d.size := by rw [Array.length_toList]; rfl
theorem get_len (d : ByteArray) (k : Nat) (h : k < d.size) : d.data.toList[k]? = some d[k] := by
  rw [List.getElem?_eq_getElem (by rw [size_len]; exact h)]; rfl

theorem cutMinus (s : ByteArray) (w : World) : Calls Tryd.prog 22 #[.string s, .string ⟨#[45]⟩] w fun e w' => ∃ d : ByteArray, e = .returned (.tuple #[.string d, .bool (hasPrefix s.data.toList [45])]) ∧ Hid (d.data.toList = trimPrefix s.data.toList [45]) ∧ d.size ≤ s.size ∧ w = w' := by
  refine (Tryd.strings_CutPrefix s ⟨#[45]⟩ w).mono ?_
  rintro e w' ⟨rfl, rfl⟩
  refine ⟨_, rfl, Lib.hid rfl, ?_, rfl⟩
  rw [← size_len, ← size_len]
  show (trimPrefix s.data.toList [45]).length ≤ _
  unfold trimPrefix
  split
  · rw [List.length_drop]; omega
  · omega

theorem dd_cons (m : Nat) : decDigits m = if m < 10 then [48 + UInt8.ofNat (m % 10)] else decDigits (m / 10) ++ [48 + UInt8.ofNat (m % 10)] := by
  rw [decDigits]
  by_cases h : m < 10
  · rw [dif_pos h, if_pos h, Nat.mod_eq_of_lt h, UInt8.ofNat_add]; rfl
  · rw [dif_neg h, if_neg h, UInt8.ofNat_add]; rfl
theorem decDigits_len (u : Nat) (h : u < 18446744073709551616) : (decDigits u).length ≤ 20 := by
  rw [decDigits_length]
  by_cases h1 : 1 ≤ u
  · have := numDigits_eq u h1 h; split at this <;> omega
  · rw [nDigits_small (by omega)]; omega

end Go.Proofs.YthdjpkpkkdnofabDoor
