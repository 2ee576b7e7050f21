/-
  What is proved: the walk of the statement LeaveTexts: the call returns true. Conditions: the tables read as their texts lay them.
-/
import Derived.Test.YtpejdbnphjheeaaDoorLvT
namespace Go.Proofs.YtpejdbnphjheeaaDoor
open Go Go.RowKit Go.Proofs Go.Proofs.YtpejdbnphjheeaaDoor.Cv
set_option linter.unusedVariables false

set_option maxHeartbeats 4000000 in
set_option maxRecDepth 100000 in
theorem walkLeaveTexts (q : Nat → Int) (w : World) (hq : ∀ j, j < 4 → in64 (q j)) (hT : Tab4 w) :
    Calls Tryd.prog 7 #[.agg #[.int .i64 (q 0), .int .i64 (q 1), .int .i64 (q 2), .int .i64 (q 3)]] w fun e w' => e = .returned (.bool true) ∧ Below w.heap.size w w' := by
  obtain ⟨W1, hW1⟩ : ∃ W1, W1 = w.alloc (.cells #[.int .i64 (q 0), .int .i64 (q 1), .int .i64 (q 2), .int .i64 (q 3)] 28) := ⟨_, rfl⟩
  have hb0 : Below w.heap.size w W1 := by rw [hW1]; exact (Below.refl w.heap.size w).alloc (Nat.le_refl _) _
  have T1 := Lib.hid (hT.stay hb0)
  have HA := Lib.hid awake_any
  have HF := Lib.hid far_any
  have key : (decide (q 0 < -4611686018427387904) = true ∨ (decide (q 0 < -4611686018427387904) = false ∧ decide (q 1 < -4611686018427387904) = true) ∨ (decide (q 0 < -4611686018427387904) = false ∧ decide (q 1 < -4611686018427387904) = false ∧ decide (q 2 < -4611686018427387904) = true) ∨ (decide (q 0 < -4611686018427387904) = false ∧ decide (q 1 < -4611686018427387904) = false ∧ decide (q 2 < -4611686018427387904) = false ∧ decide (q 3 < -4611686018427387904) = true)) ∨ (decide (q 0 < -4611686018427387904) = false ∧ decide (q 1 < -4611686018427387904) = false ∧ decide (q 2 < -4611686018427387904) = false ∧ decide (q 3 < -4611686018427387904) = false) := by
    simp only [decide_eq_true_eq, decide_eq_false_iff_not]
    omega
  rcases key with hbad | ⟨d0, d1, d2, d3⟩
  · clear hq hT
    generalize q 0 = a0 at *
    generalize q 1 = a1 at *
    generalize q 2 = a2 at *
    generalize q 3 = a3 at *
    rcases hbad with d0 | ⟨d0, d1⟩ | ⟨d0, d1, d2⟩ | ⟨d0, d1, d2, d3⟩
    all_goals
      go_enter Tryd.func7, Tryd.ntmps7
      go_wp2_with (go_at_call 15; refine (HF.out _ _).mono ?_; rintro e w' ⟨rfl, rfl⟩)
      rw [← hW1]
      refine (HA.out _ T1.out).mono ?_
      rintro e w2 ⟨rfl, hb⟩
      go_wp2
      go_ret
      exact ⟨rfl, hb0.trans (hb.mono hb0.size)⟩
  · have e0 := of_decide_eq_false d0
    have e1 := of_decide_eq_false d1
    have e2 := of_decide_eq_false d2
    have e3 := of_decide_eq_false d3
    have hb : ∀ j, j < 4 → -9223372036854775807 ≤ q j ∧ q j ≤ 9223372036854775807 := fun j hj => by
      have h := hq j hj
      unfold in64 at h
      have e : j = 0 ∨ j = 1 ∨ j = 2 ∨ j = 3 := by omega
      rcases e with rfl | rfl | rfl | rfl <;> omega
    have HX := Lib.hid (fun W hW => Text_any q (fun j hj => by have := hb j hj; omega) W hW)
    have HR := Lib.hid (fun W => rText_any q hb W)
    have c0 : W1.cell? ⟨w.heap.size, 0, none⟩ = some (.int .i64 (q 0)) := by rw [hW1, World.cell?_alloc_new]; rfl
    have c1 : W1.cell? ⟨w.heap.size, 1, none⟩ = some (.int .i64 (q 1)) := by rw [hW1, World.cell?_alloc_new]; rfl
    have c2 : W1.cell? ⟨w.heap.size, 2, none⟩ = some (.int .i64 (q 2)) := by rw [hW1, World.cell?_alloc_new]; rfl
    have c3 : W1.cell? ⟨w.heap.size, 3, none⟩ = some (.int .i64 (q 3)) := by rw [hW1, World.cell?_alloc_new]; rfl
    have k0 := fun p => cell_by c0 p
    have k1 := fun p => cell_by c1 p
    have k2 := fun p => cell_by c2 p
    have k3 := fun p => cell_by c3 p
    have mixed : Tryd.prog.follows .mixedOrders = true := by kernel_rfl
    generalize (⟨(txtK q 4).toArray⟩ : ByteArray) = R at HX HR
    clear e0 e1 e2 e3 hb hq hT c0 c1 c2 c3
    generalize q 0 = a0 at *
    generalize q 1 = a1 at *
    generalize q 2 = a2 at *
    generalize q 3 = a3 at *
    go_enter Tryd.func7, Tryd.ntmps7
    go_wp2_with (go_at_call 15; refine (HF.out _ _).mono ?_; rintro e w' ⟨rfl, rfl⟩)
    rw [← hW1]
    clear hW1
    refine wp_region_quiet_below (W0 := W1) mixed (by kernel_rfl) (Below.refl _ _) ?_
    repeat (quiet_step (first | (go_at_call 16; exact below_of (HX.out _ (T1.out.stay (BelowBy.h _)))) | (go_at_call 17; exact below_of (HR.out _)) | (go_at_call 9; exact below_of (HA.out _ (T1.out.stay (BelowBy.h _))))))
    refine wpQuiet_nil ?_
    rintro _ ⟨p, rfl⟩
    go_wp2
    go_ret
    exact ⟨rfl, hb0.trans (p.h.mono hb0.size)⟩

end Go.Proofs.YtpejdbnphjheeaaDoor
