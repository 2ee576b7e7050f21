/-
  What is proved: the walk of the statement CivilParses: the call returns true. Conditions: the table of months' lengths reads as its text lays it.
-/
import Derived.Test.YtajhabnepodpbaaDoorCivWalk
import Derived.Test.YtajhabnepodpbaaDoorCivRef5
namespace Go.Proofs.YtajhabnepodpbaaDoor
open Go Go.RowKit Go.Proofs
set_option linter.unusedVariables false

theorem parE_bd (l : List UInt8) : 0 ≤ parE l ∧ parE l ≤ 15 := by
  unfold parE
  by_cases h : isDateB l = true
  · rw [if_pos h]; split <;> omega
  · rw [if_neg h]; omega

set_option maxHeartbeats 1000000 in
set_option maxRecDepth 100000 in
theorem walkCivilParses (s : ByteArray) (w : World) (w0 : s.size ≤ maxLen) (hL : Len w) :
    Calls Tryd.prog 7 #[.string s] w fun e w' => e = .returned (.bool true) ∧ Below w.heap.size w w' := by
  have HP := parse_any s
  have HR := rparse_any s
  obtain ⟨b1, b2⟩ := parE_bd s.data.toList
  generalize parV s.data.toList = V at HP HR
  generalize parE s.data.toList = E at HP HR b1 b2
  have HP := Lib.hid HP
  have HR := Lib.hid HR
  unfold maxLen at w0
  by_cases hl : 300 < s.size
  · go_enter Tryd.func7, Tryd.ntmps7
    go_wp2_with fail
    refine (awake_any _ hL).mono ?_
    rintro e w4 ⟨rfl, hb6⟩
    go_wp2
    go_ret
    exact ⟨rfl, hb6⟩
  · go_enter Tryd.func7, Tryd.ntmps7
    go_wp2_with fail
    refine (HP.out _ hL).mono ?_
    rintro e w1 ⟨rfl, hb1⟩
    go_wp2_with fail
    refine (HR.out _).mono ?_
    rintro e w2 ⟨rfl, hb2⟩
    have hb3 := hb1.trans (hb2.mono hb1.size)
    clear hb1 hb2
    go_wp2_with fail
    refine (awake_on hL hb3 (Nat.le_refl _) hb3.size).mono ?_
    rintro e w4 ⟨rfl, hb6⟩
    go_wp2
    go_ret
    exact ⟨rfl, hb6⟩

end Go.Proofs.YtajhabnepodpbaaDoor
