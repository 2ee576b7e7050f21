/-
  What is proved: the contracts of isRight of a week and of Check of a pattern. Conditions: the free days lie in memory as the contract says.
-/
import Derived.Test.YtbgilplaefdhbaaDoorDkMath
namespace Go.Proofs.YtbgilplaefdhbaaDoor
open Go Go.RowKit Go.Proofs

/-- Days in memory. -/
def DaysIn (w : World) (p : Option Addr) (L : List Int) : Prop :=
  L = [] ∨ ∃ b o, p = some ⟨b, o, none⟩ ∧ ∀ j, j < L.length → w.cell? ⟨b, o + j, none⟩ = some (.int .i64 (L.getD j 0))
theorem DaysIn.below {w w' : World} {p : Option Addr} {L : List Int} {B : Nat} (h : DaysIn w p L) (hb : Below B w w') (hB : w.heap.size ≤ B) : DaysIn w' p L := by
  rcases h with h | ⟨b, o, rfl, hc⟩
  · exact .inl h
  · refine .inr ⟨b, o, rfl, fun j hj => ?_⟩
    have h1 := hc j hj
    have h2 := World.block_lt_of_cell? w _ h1
    rw [hb.cell (p := ⟨b, o + j, none⟩) (Nat.lt_of_lt_of_le h2 hB)]
    exact h1

set_option maxHeartbeats 1000000 in
set_option maxRecDepth 100000 in
theorem isRight_any (q : Nat → Int) (w : World) : Calls Tryd.prog 11 #[.agg #[.int .i64 (q 0), .int .i64 (q 1), .int .i64 (q 2), .int .i64 (q 3), .int .i64 (q 4), .int .i64 (q 5), .int .i64 (q 6)]] w fun e w' => e = .returned (.bool (decide (chkW q = 0))) ∧ Below w.heap.size w w' := by
  obtain ⟨r, hr⟩ : ∃ r, r = decide (chkW q = 0) := ⟨_, rfl⟩
  have HN : Hid (∀ k, k < 7 → fnz (wkBad q) k = 0 → (q k < 0 ∨ 1440 < q k) → r = false) := Lib.hid (fun k hk h0 h1 => by
    have e : wkBad q k = 2 := by unfold wkBad; rw [if_pos h1]
    rw [hr, decide_eq_false_iff_not, show chkW q = wkBad q k from fnz_stop h0 (by rw [e]; decide) hk, e]
    decide)
  have HY : Hid (fnz (wkBad q) 7 = 0 → r = true) := Lib.hid (fun h => by rw [hr, decide_eq_true_iff]; exact h)
  rw [← hr]
  clear hr
  have i0 : ∀ W, (Instr.index 23 (.agg #[.int .i64 (q 0), .int .i64 (q 1), .int .i64 (q 2), .int .i64 (q 3), .int .i64 (q 4), .int .i64 (q 5), .int .i64 (q 6)]) (.int .i64 0)).run Tryd.prog W = .ok (.int .i64 (q 0)) W := fun _ => by kernel_rfl
  have i1 : ∀ W, (Instr.index 23 (.agg #[.int .i64 (q 0), .int .i64 (q 1), .int .i64 (q 2), .int .i64 (q 3), .int .i64 (q 4), .int .i64 (q 5), .int .i64 (q 6)]) (.int .i64 1)).run Tryd.prog W = .ok (.int .i64 (q 1)) W := fun _ => by kernel_rfl
  have i2 : ∀ W, (Instr.index 23 (.agg #[.int .i64 (q 0), .int .i64 (q 1), .int .i64 (q 2), .int .i64 (q 3), .int .i64 (q 4), .int .i64 (q 5), .int .i64 (q 6)]) (.int .i64 2)).run Tryd.prog W = .ok (.int .i64 (q 2)) W := fun _ => by kernel_rfl
  have i3 : ∀ W, (Instr.index 23 (.agg #[.int .i64 (q 0), .int .i64 (q 1), .int .i64 (q 2), .int .i64 (q 3), .int .i64 (q 4), .int .i64 (q 5), .int .i64 (q 6)]) (.int .i64 3)).run Tryd.prog W = .ok (.int .i64 (q 3)) W := fun _ => by kernel_rfl
  have i4 : ∀ W, (Instr.index 23 (.agg #[.int .i64 (q 0), .int .i64 (q 1), .int .i64 (q 2), .int .i64 (q 3), .int .i64 (q 4), .int .i64 (q 5), .int .i64 (q 6)]) (.int .i64 4)).run Tryd.prog W = .ok (.int .i64 (q 4)) W := fun _ => by kernel_rfl
  have i5 : ∀ W, (Instr.index 23 (.agg #[.int .i64 (q 0), .int .i64 (q 1), .int .i64 (q 2), .int .i64 (q 3), .int .i64 (q 4), .int .i64 (q 5), .int .i64 (q 6)]) (.int .i64 5)).run Tryd.prog W = .ok (.int .i64 (q 5)) W := fun _ => by kernel_rfl
  have i6 : ∀ W, (Instr.index 23 (.agg #[.int .i64 (q 0), .int .i64 (q 1), .int .i64 (q 2), .int .i64 (q 3), .int .i64 (q 4), .int .i64 (q 5), .int .i64 (q 6)]) (.int .i64 6)).run Tryd.prog W = .ok (.int .i64 (q 6)) W := fun _ => by kernel_rfl
  go_enter Tryd.func11, Tryd.ntmps11
  go_wp2
  go_loop [6] (fun iv => ∃ k : Nat, k ≤ 7 ∧ iv = .int .i64 k ∧ Hid (fnz (wkBad q) k = 0)) (fun iv => 7 - (RowKit.intOf iv).toNat)
  case atStart => exact ⟨0, by omega, rfl, Lib.hid rfl⟩
  case round =>
    obtain ⟨k, hk, rfl, H0⟩ := hrel
    by_cases hlt : k < 7
    · have e7 : k = 0 ∨ k = 1 ∨ k = 2 ∨ k = 3 ∨ k = 4 ∨ k = 5 ∨ k = 6 := by omega
      rcases Int.lt_or_le (q k) 0 with h1 | h1
      · have HR := Lib.hid (HN.out k hlt H0.out (.inl h1))
        clear HN HY H0
        rcases e7 with rfl | rfl | rfl | rfl | rfl | rfl | rfl
        all_goals
          go_wp2
          go_ret
          exact ⟨by rw [HR.out]; rfl, (Below.refl _ _).alloc (Nat.le_refl _) _⟩
      · rcases Int.lt_or_le 1440 (q k) with h2 | h2
        · have HR := Lib.hid (HN.out k hlt H0.out (.inr h2))
          clear HN HY H0
          rcases e7 with rfl | rfl | rfl | rfl | rfl | rfl | rfl
          all_goals
            go_wp2
            go_ret
            exact ⟨by rw [HR.out]; rfl, (Below.refl _ _).alloc (Nat.le_refl _) _⟩
        · have HR : Hid (fnz (wkBad q) (k + 1) = 0) := Lib.hid (fnz_next H0.out (by unfold wkBad; rw [if_neg]; omega))
          clear HN HY H0
          rcases e7 with rfl | rfl | rfl | rfl | rfl | rfl | rfl
          all_goals
            go_wp2
            go_round
            case rel => exact ⟨_, by omega, by go_num, HR⟩
            case measure => simp [RowKit.intOf]
    · obtain rfl : k = 7 := by omega
      have HR := Lib.hid (HY.out H0.out)
      go_wp2
      go_ret
      exact ⟨by rw [HR.out]; rfl, (Below.refl _ _).alloc (Nat.le_refl _) _⟩

end Go.Proofs.YtbgilplaefdhbaaDoor
