/-
  What is proved: the walk of the statement CentsSums: the call returns true. Conditions: the table of powers of ten reads as the library lays it.
-/
import Derived.Test.YthdjpkpkkdnofaaDoorAwake
import Derived.Test.YthdjpkpkkdnofaaDoorSum
import Derived.Test.YthdjpkpkkdnofaaDoorIsRow
namespace Go.Proofs.YthdjpkpkkdnofaaDoor
open Go Go.RowKit Go.Lib Go.Proofs
set_option linter.unusedVariables false

theorem sumE_bd : ∀ (zs : List Int) (acc : Int), 0 ≤ (sumVE acc zs).2 ∧ (sumVE acc zs).2 ≤ 9
  | [], acc => by simp [sumVE]
  | c :: r, acc => by
    unfold sumVE
    split
    · exact sumE_bd r _
    · exact addE_bd acc c

set_option maxHeartbeats 1000000 in
set_option maxRecDepth 100000 in
theorem walkCentsSums (a0 : Option Addr) (len0 cap0 : Nat) (z0 : List Int) (w : World) (w0 : IsRow .i64 w a0 len0 cap0 z0) (htab : TabIs Tryd.prog w "internal/strconv.uint64pow10" .u64 pow10Tab) :
    Calls Tryd.prog 4 #[.slice a0 len0 cap0] w fun e w' => e = .returned (.bool true) ∧ Below w.heap.size w w' := by
  obtain ⟨zs, hrow, hlen, -⟩ := row_of w0
  obtain ⟨b1, b2⟩ := sumE_bd zs 0
  have HS := Lib.hid (sum_row _ zs w hrow)
  have HT := Lib.hid (rsum_row _ zs w hrow)
  have hm : len0 ≤ maxLen := by obtain ⟨_, _, e, h, _⟩ := hrow; rw [← hlen]; exact h
  unfold maxLen at hm
  clear hlen hrow w0
  by_cases h2 : 200 < len0
  · go_enter Tryd.func4, Tryd.ntmps4
    go_wp2_with (first | (go_at_call 20; refine (awake_any _ htab).mono ?_; rintro e w' ⟨rfl, hb⟩))
    go_ret
    exact ⟨rfl, by assumption⟩
  · go_enter Tryd.func4, Tryd.ntmps4
    go_wp2_with (first | (go_at_call 21; refine (HS.out).mono ?_; rintro e w' ⟨rfl, rfl⟩) | (go_at_call 22; refine (HT.out).mono ?_; rintro e w' ⟨rfl, rfl⟩) | (go_at_call 20; refine (awake_any _ htab).mono ?_; rintro e w' ⟨rfl, hb⟩))
    go_ret
    exact ⟨rfl, by assumption⟩

end Go.Proofs.YthdjpkpkkdnofaaDoor
