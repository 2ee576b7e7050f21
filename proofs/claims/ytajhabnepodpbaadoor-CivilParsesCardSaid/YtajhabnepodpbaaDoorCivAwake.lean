/-
  What is proved: the document's examples of the calendar come out as it says ('awake' of the statements returns true). Conditions: the table of months' lengths reads as its text lays it.
-/
import Derived.Test.YtajhabnepodpbaaDoorCivD
namespace Go.Proofs.YtajhabnepodpbaaDoor
open Go Go.RowKit Go.Proofs

theorem of_awake (w : World) (hL : Len w) : Calls Tryd.prog 12 #[.agg #[.int .i64 2024, .int .i64 2, .int .i64 29]] w fun e w' => e = .returned (.tuple #[.int .i64 19782, .int .i64 0]) ∧ Below w.heap.size w w' := by
  have h := of_yes 2024 2 29 (by decide) w hL
  rwa [show num 2024 2 29 = 19782 by decide] at h
theorem of_awake2 (w : World) (hL : Len w) : Calls Tryd.prog 12 #[.agg #[.int .i64 2023, .int .i64 2, .int .i64 29]] w fun e w' => e = .returned (.tuple #[.int .i64 0, .int .i64 15]) ∧ Below w.heap.size w w' :=
  of_no 2023 2 29 (by decide) w hL
theorem wk_awake (w : World) : Calls Tryd.prog 18 #[.int .i64 19782] w fun e w' => e = .returned (.int .i64 3) ∧ w = w' := by
  have h := wk_any 19782 w
  rwa [show wkV 19782 = 3 by decide] at h
theorem add_awake (w : World) (hL : Len w) : Calls Tryd.prog 23 #[.int .i64 19782, .int .i64 12] w fun e w' => e = .returned (.int .i64 20147) ∧ Below w.heap.size w w' := by
  have h := add_yes 2024 2 29 19782 12 (by decide) (by decide) (by omega) (by omega) w hL
  rwa [show addM 2024 2 29 12 = 20147 by decide] at h
theorem text_awake (w : World) (hL : Len w) : Calls Tryd.prog 20 #[.int .i64 20147] w fun e w' => e = .returned (.string ⟨#[50, 48, 50, 53, 45, 48, 50, 45, 50, 56]⟩) ∧ Below w.heap.size w w' := by
  have h := text_yes 2025 2 28 20147 (by decide) (by decide) w hL
  rwa [show textL 2025 2 28 = [50, 48, 50, 53, 45, 48, 50, 45, 50, 56] by decide] at h

set_option maxRecDepth 100000 in
theorem awake_any (w : World) (hL : Len w) : Calls Tryd.prog 16 #[] w fun e w' => e = .returned (.bool true) ∧ Below w.heap.size w w' := by
  go_enter Tryd.func16, Tryd.ntmps16
  go_wp2_with fail
  refine (of_awake _ hL).mono ?_
  rintro e w1 ⟨rfl, hb1⟩
  have hL1 := hL.below hb1 (Nat.le_refl _)
  go_wp2_with fail
  refine (of_awake2 _ hL1).mono ?_
  rintro e w2 ⟨rfl, hb2⟩
  have hL2 := hL1.below hb2 (Nat.le_refl _)
  have hb12 := hb1.trans (hb2.mono hb1.size)
  clear hb1 hb2 hL1
  go_wp2_with fail
  refine (wk_awake _).mono ?_
  rintro e w' ⟨rfl, rfl⟩
  go_wp2_with fail
  refine (add_awake _ hL2).mono ?_
  rintro e w3 ⟨rfl, hb3⟩
  have hL3 := hL2.below hb3 (Nat.le_refl _)
  have hb13 := hb12.trans (hb3.mono hb12.size)
  clear hb12 hb3 hL2
  go_wp2_with fail
  refine (text_awake _ hL3).mono ?_
  rintro e w4 ⟨rfl, hb4⟩
  have hb14 := hb13.trans (hb4.mono hb13.size)
  go_wp2
  go_ret
  exact ⟨rfl, hb14⟩

theorem awake_on {B : Nat} {w0 w : World} (hL : Len w0) (hb : Below B w0 w) (h1 : w0.heap.size ≤ B) (h2 : B ≤ w.heap.size) : Calls Tryd.prog 16 #[] w fun e w' => e = .returned (.bool true) ∧ Below B w0 w' :=
  (awake_any w (hL.below hb h1)).mono fun _ _ ⟨h, hb'⟩ => ⟨h, hb.trans (hb'.mono h2)⟩

end Go.Proofs.YtajhabnepodpbaaDoor
