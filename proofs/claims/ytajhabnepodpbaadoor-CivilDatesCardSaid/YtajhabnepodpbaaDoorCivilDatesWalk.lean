/-
  What is proved: the walk of the statement CivilDates: the call returns true. Conditions: the table of months' lengths reads as its text lays it.
-/
import Derived.Test.YtajhabnepodpbaaDoorCivWalk
namespace Go.Proofs.YtajhabnepodpbaaDoor
open Go Go.RowKit Go.Proofs
set_option linter.unusedVariables false

set_option maxHeartbeats 2000000 in
set_option maxRecDepth 100000 in
theorem dates_any (y m d : Int) (w : World) (hL : Len w) (x : Int) (E : Int) (ok : Bool) (hE : (E == 0) = ok) (hE2 : (E == 15) = !ok)
    (HO : Hid (∀ w, Len w → Calls Tryd.prog 12 #[.agg #[.int .i64 y, .int .i64 m, .int .i64 d]] w fun e w' => e = .returned (.tuple #[.int .i64 x, .int .i64 E]) ∧ Below w.heap.size w w'))
    (HR : Hid (∀ w, Calls Tryd.prog 13 #[.agg #[.int .i64 y, .int .i64 m, .int .i64 d]] w fun e w' => e = .returned (.tuple #[.int .i64 x, .bool ok]) ∧ Below w.heap.size w w')) :
    Calls Tryd.prog 3 #[.agg #[.int .i64 y, .int .i64 m, .int .i64 d]] w fun e w' => e = .returned (.bool true) ∧ Below w.heap.size w w' := by
  have hB := (Below.refl w.heap.size w).alloc (Nat.le_refl _) (.cells #[.int .i64 y, .int .i64 m, .int .i64 d] 23)
  have hL1 := hL.alloc (.cells #[.int .i64 y, .int .i64 m, .int .i64 d] 23)
  obtain ⟨c0, c1, c2⟩ := new3 w (.int .i64 y) (.int .i64 m) (.int .i64 d) 23
  have hg : w.heap.size < (w.alloc (.cells #[.int .i64 y, .int .i64 m, .int .i64 d] 23)).heap.size := by simp
  go_enter Tryd.func3, Tryd.ntmps3
  go_wp2_with fail
  refine (HO.out _ hL1).mono ?_
  rintro e w1 ⟨rfl, hb1⟩
  have d0 := (bcell hb1 w.heap.size 0 hg).trans c0
  have d1 := (bcell hb1 w.heap.size 1 hg).trans c1
  have d2 := (bcell hb1 w.heap.size 2 hg).trans c2
  have hL2 := hL1.below hb1 (Nat.le_refl _)
  have hB2 := hB.trans (hb1.mono hB.size)
  have hg1 : w.heap.size < w1.heap.size := Nat.lt_of_lt_of_le hg hb1.size
  clear hb1 c0 c1 c2 hL1 hB hg
  go_wp2_with fail
  refine (HR.out _).mono ?_
  rintro e w2 ⟨rfl, hb2⟩
  have f0 := (bcell hb2 w.heap.size 0 hg1).trans d0
  have f1 := (bcell hb2 w.heap.size 1 hg1).trans d1
  have hL3 := hL2.below hb2 (Nat.le_refl _)
  have hB3 := hB2.trans (hb2.mono hB2.size)
  clear hb2 d0 d1 d2 hL2 hB2 hg1
  have HLd : Hid (Len w2.drew) := Lib.hid hL3
  have HBd : Hid (Below w.heap.size w w2.drew) := Lib.hid hB3.drew
  have hz2 : w.heap.size < w2.drew.heap.size := World.block_lt_of_cell? w2 _ f0
  have g0 : w2.drew.cell? ⟨w.heap.size, 0, none⟩ = some (.int .i64 y) := f0
  have g1 : w2.drew.cell? ⟨w.heap.size, 1, none⟩ = some (.int .i64 m) := f1
  clear HO HR f0 f1 hL3 hB3
  go_upto_region 3 with fail
  refine wp_region_still_tail 26 (by kernel_rfl) (by kernel_rfl) ?_
  change wpStill _ _ w2.drew (fun a' => wpList _ _ _ _ a' w2.drew) _ _
  generalize w2.drew = W at HLd HBd hz2 g0 g1 ⊢
  simp only [List.take_succ_cons, List.take_zero, List.drop_succ_cons, List.drop_zero]
  cases ok with
  | true =>
    iterate 21 still_step
    still_call (md_q _ _ _ HLd.out)
    iterate 4 still_step
    refine wpStill_nil ?_
    go_wp2_with fail
    refine (rmonth_any y m _).mono ?_
    rintro e w3 ⟨rfl, hb3⟩
    have hb4 := HBd.out.trans (hb3.mono (Nat.le_of_lt hz2))
    go_wp2_with fail
    refine (awake_on hL hb4 (Nat.le_refl _) hb4.size).mono ?_
    rintro e w8 ⟨rfl, hb8⟩
    go_wp2
    go_ret
    exact ⟨rfl, hb8⟩
  | false =>
    iterate 21 still_step
    still_call (md_q _ _ _ HLd.out)
    iterate 4 still_step
    refine wpStill_nil ?_
    go_wp2_with fail
    refine (rmonth_any y m _).mono ?_
    rintro e w3 ⟨rfl, hb3⟩
    have hb4 := HBd.out.trans (hb3.mono (Nat.le_of_lt hz2))
    go_wp2_with fail
    refine (awake_on hL hb4 (Nat.le_refl _) hb4.size).mono ?_
    rintro e w8 ⟨rfl, hb8⟩
    go_wp2
    go_ret
    exact ⟨rfl, hb8⟩

theorem walkCivilDates (y m d : Int) (w : World) (w0 : (Lit.int .i64 y).wf = true) (w1 : (Lit.int .i64 m).wf = true) (w2 : (Lit.int .i64 d).wf = true) (hL : Len w) :
    Calls Tryd.prog 3 #[.agg #[.int .i64 y, .int .i64 m, .int .i64 d]] w fun e w' => e = .returned (.bool true) ∧ Below w.heap.size w w' := by
  cases h : okB y m d with
  | true => exact dates_any y m d w hL _ 0 true rfl rfl (Lib.hid (of_yes y m d h)) (Lib.hid (rof_yes y m d h))
  | false => exact dates_any y m d w hL 0 15 false rfl rfl (Lib.hid (of_no y m d h)) (Lib.hid (rof_no y m d h))

end Go.Proofs.YtajhabnepodpbaaDoor
