/-
  What is proved: the example of social's statements returns true. Conditions: none.
-/
import Derived.Test.YtibbgihcmcnamaaSoK
import Derived.Deep.DeepCutAuto
namespace Go.Proofs.Ytibbgihcmcnamaa
open Go Go.RowKit Go.Lib Go.Proofs
open Ra (fitsB fitsB_iff)
set_option linter.unusedVariables false

theorem old_name : nameL oldS.data.toList = true := by decide
theorem old_one (w : World) : Calls Try.prog 11 #[.agg #[.int .i64 0, .int .i64 0, .int .i64 0, .int .i64 0], .agg #[.string oldS, .int .i64 100000, .int .i64 120000, .int .i64 700000], .int .i64 300000] w fun e w' => e = .returned (.tuple #[.agg #[.int .i64 300000, .int .i64 300000, .int .i64 30000, .int .i64 36000], .int .i64 0]) ∧ Below w.heap.size w w' := by
  have h := Step_any 0 0 0 0 oldS 100000 120000 700000 300000 (by decide) w
  rw [old_name, show stepV 0 0 0 0 true 100000 120000 700000 300000 = (300000, 300000, 30000, 36000) by decide, show stepE 0 0 0 0 true 100000 120000 700000 300000 = 0 by decide] at h
  exact h
theorem old_two (w : World) : Calls Try.prog 11 #[.agg #[.int .i64 300000, .int .i64 300000, .int .i64 30000, .int .i64 36000], .agg #[.string oldS, .int .i64 100000, .int .i64 120000, .int .i64 700000], .int .i64 300000] w fun e w' => e = .returned (.tuple #[.agg #[.int .i64 600000, .int .i64 600000, .int .i64 60000, .int .i64 72000], .int .i64 0]) ∧ Below w.heap.size w w' := by
  have h := Step_any 300000 300000 30000 36000 oldS 100000 120000 700000 300000 (by decide) w
  rw [old_name, show stepV 300000 300000 30000 36000 true 100000 120000 700000 300000 = (600000, 600000, 60000, 72000) by decide, show stepE 300000 300000 30000 36000 true 100000 120000 700000 300000 = 0 by decide] at h
  exact h
theorem old_three (w : World) : Calls Try.prog 11 #[.agg #[.int .i64 600000, .int .i64 600000, .int .i64 60000, .int .i64 72000], .agg #[.string oldS, .int .i64 100000, .int .i64 120000, .int .i64 700000], .int .i64 300000] w fun e w' => e = .returned (.tuple #[.agg #[.int .i64 900000, .int .i64 700000, .int .i64 70000, .int .i64 84000], .int .i64 0]) ∧ Below w.heap.size w w' := by
  have h := Step_any 600000 600000 60000 72000 oldS 100000 120000 700000 300000 (by decide) w
  rw [old_name, show stepV 600000 600000 60000 72000 true 100000 120000 700000 300000 = (900000, 700000, 70000, 84000) by decide, show stepE 600000 600000 60000 72000 true 100000 120000 700000 300000 = 0 by decide] at h
  exact h
theorem old_room (w : World) : Calls Try.prog 14 #[.agg #[.int .i64 600000, .int .i64 600000, .int .i64 60000, .int .i64 72000], .agg #[.string oldS, .int .i64 100000, .int .i64 120000, .int .i64 700000]] w fun e w' => e = .returned (.int .i64 100000) ∧ Below w.heap.size w w' := by
  have h := Room_any 600000 600000 60000 72000 oldS 100000 120000 700000 (by decide) w
  rw [old_name, show RoomV 600000 600000 60000 72000 true 100000 120000 700000 = 100000 by decide] at h
  exact h
theorem Rm4.c4 {w : World} {g : Nat} (h : Rm4 w g) (a b c d : Int) : C4 ((((w.setCell ⟨g, 0, none⟩ (.int .i64 a)).setCell ⟨g, 1, none⟩ (.int .i64 b)).setCell ⟨g, 2, none⟩ (.int .i64 c)).setCell ⟨g, 3, none⟩ (.int .i64 d)) g a b c d := h.set _ _ _ _
theorem kb_call {W0 w w' : World} {C : Prop} (hb : Below w.heap.size w w') (h : C ∧ Below W0.heap.size W0 w) : Below W0.heap.size W0 w' := h.2.trans (hb.mono h.2.size)
theorem kb_drew {W : World} : Below W.heap.size W W.drew := (Below.refl _ _).drew

set_option maxHeartbeats 8000000 in
set_option maxRecDepth 100000 in
theorem awake_any (w : World) : Calls Try.prog 10 #[] w fun e w' => e = .returned (.bool true) ∧ Below w.heap.size w w' := by
  have H1 := Lib.hid old_one
  have H2 := Lib.hid old_two
  have H3 := Lib.hid old_three
  have H4 := Lib.hid old_room
  go_enter Try.func10, Try.ntmps10
  go_wp2_with fail
  refine (old_any _).mono ?_
  rintro e w1 ⟨rfl, hb1⟩
  go_wp2_with fail
  refine (H1.out _).mono ?_
  rintro e w2 ⟨rfl, hb2⟩
  have hk2 := hb1.trans (hb2.mono hb1.size)
  have hA : C4 (w2.alloc (.cells #[.int .i64 300000, .int .i64 300000, .int .i64 30000, .int .i64 36000] 24)) w2.heap.size 300000 300000 30000 36000 := C4.new _ _ _ _ _ _
  have hkA : Below w.heap.size w (w2.alloc (.cells #[.int .i64 300000, .int .i64 300000, .int .i64 30000, .int .i64 36000] 24)) := hk2.alloc hk2.size _
  go_upto_region 2 with fail
  generalize (w2.alloc (.cells #[.int .i64 300000, .int .i64 300000, .int .i64 30000, .int .i64 36000] 24)) = WA at hA hkA ⊢
  generalize w2.heap.size = gA at hA ⊢
  obtain ⟨x0, x1, x2, x3⟩ := hA
  have HA : Hid (C4 WA gA 300000 300000 30000 36000) := Lib.hid ⟨x0, x1, x2, x3⟩
  go_cut [3, 4] (fun s12 s13 wx => ∃ g, s12 = .pointer (some ⟨g, 0, none⟩) ∧ s13 = .int .i64 0 ∧ Hid (C4 wx g 600000 600000 60000 72000) ∧ Hid (Below WA.heap.size WA wx))
  case first =>
    have KP : Hid (∀ w', Below WA.heap.size WA w' → (w'.cell? ⟨gA, 0, none⟩ = some (.int .i64 300000) ∧ w'.cell? ⟨gA, 1, none⟩ = some (.int .i64 300000) ∧ w'.cell? ⟨gA, 2, none⟩ = some (.int .i64 30000) ∧ w'.cell? ⟨gA, 3, none⟩ = some (.int .i64 36000)) ∧ Below WA.heap.size WA w') := Lib.hid (fun w' h => ⟨HA.out.kp h, h⟩)
    clear x0 x1 x2 x3
    go_region_held3 (fun w' => (w'.cell? ⟨gA, 0, none⟩ = some (.int .i64 300000) ∧ w'.cell? ⟨gA, 1, none⟩ = some (.int .i64 300000) ∧ w'.cell? ⟨gA, 2, none⟩ = some (.int .i64 30000) ∧ w'.cell? ⟨gA, 3, none⟩ = some (.int .i64 36000)) ∧ Below WA.heap.size WA w') (first | with_reducible exact KP.out _ (put4_below hky (Nat.le_refl _) _ _ _ _) | with_reducible exact KP.out _ (put4_below hky hgx _ _ _ _) | with_reducible exact KP.out _ kb_drew | with_reducible exact KP.out _ (by assumption) | with_reducible exact KP.out _ (Below.alloc (by assumption) (by assumption) _) | with_reducible exact KP.out _ (Below.alloc kb_drew (Below.size kb_drew) _) | with_reducible exact KP.out _ (Below.drew (Below.alloc (Below.refl _ _) (Nat.le_refl _) _))) (first | (go_at_call 20; refine (old_any _).mono ?_; rintro e wx ⟨rfl, hbx⟩; have hkx : Below WA.heap.size WA wx := kb_call hbx (by assumption); have hgx := hkx.size; first | (have hrx := (Rm4.new _ _ _ _ _ _).drew.below hbx) | (have hrx := (Rm4.new _ _ _ _ _ _).below hbx) | skip) | (go_at_call 11; refine (H2.out _).mono ?_; rintro e wy ⟨rfl, hby⟩; have hky : Below WA.heap.size WA wy := kb_call hby (by assumption); have hgy := hky.size; first | (have hry := hrx.below hby) | (have hry := (Rm4.new _ _ _ _ _ _).below hby) | skip) | (obtain ⟨y0, y1, y2, y3, ⟨a0, a1, a2, a3⟩, ⟨b0, b1, b2, b3⟩⟩ := hry.all; simp (config := { decide := true }) only [a0, a1, a2, a3, b0, b1, b2, b3, Result.andThen, World.frozen?_setCell, set_off, ne_eq, Bool.false_eq_true, reduceIte]; clear a0 a1 a2 a3 b0 b1 b2 b3; go_simp))
    all_goals (go_wp2; go_meet; first | with_reducible exact ⟨_, rfl, rfl, Lib.hid (C4.new _ _ _ _ _ _), Lib.hid (hky.alloc hgy _)⟩ | with_reducible exact ⟨_, rfl, rfl, Lib.hid (hry.c4 _ _ _ _), Lib.hid (put4_below hky hgx _ _ _ _)⟩ | with_reducible exact ⟨_, rfl, rfl, Lib.hid (hry.c4 _ _ _ _), Lib.hid (put4_below hky (Nat.le_refl _) _ _ _ _)⟩)
  case rest =>
    obtain ⟨gB, rfl, rfl, HB, HkB⟩ := hcut
    rename World => WB
    obtain ⟨x0, x1, x2, x3⟩ := HB.out
    go_upto_region 3 with fail
    go_cut [5, 6] (fun s12 s13 wx => ∃ g, s12 = .pointer (some ⟨g, 0, none⟩) ∧ s13 = .int .i64 0 ∧ Hid (C4 wx g 900000 700000 70000 84000) ∧ Hid (Below WB.heap.size WB wx))
    case first =>
      have KP : Hid (∀ w', Below WB.heap.size WB w' → (w'.cell? ⟨gB, 0, none⟩ = some (.int .i64 600000) ∧ w'.cell? ⟨gB, 1, none⟩ = some (.int .i64 600000) ∧ w'.cell? ⟨gB, 2, none⟩ = some (.int .i64 60000) ∧ w'.cell? ⟨gB, 3, none⟩ = some (.int .i64 72000)) ∧ Below WB.heap.size WB w') := Lib.hid (fun w' h => ⟨HB.out.kp h, h⟩)
      clear x0 x1 x2 x3
      go_region_held3 (fun w' => (w'.cell? ⟨gB, 0, none⟩ = some (.int .i64 600000) ∧ w'.cell? ⟨gB, 1, none⟩ = some (.int .i64 600000) ∧ w'.cell? ⟨gB, 2, none⟩ = some (.int .i64 60000) ∧ w'.cell? ⟨gB, 3, none⟩ = some (.int .i64 72000)) ∧ Below WB.heap.size WB w') (first | with_reducible exact KP.out _ (put4_below hky (Nat.le_refl _) _ _ _ _) | with_reducible exact KP.out _ (put4_below hky hgx _ _ _ _) | with_reducible exact KP.out _ kb_drew | with_reducible exact KP.out _ (by assumption) | with_reducible exact KP.out _ (Below.alloc (by assumption) (by assumption) _) | with_reducible exact KP.out _ (Below.alloc kb_drew (Below.size kb_drew) _) | with_reducible exact KP.out _ (Below.drew (Below.alloc (Below.refl _ _) (Nat.le_refl _) _))) (first | (go_at_call 20; refine (old_any _).mono ?_; rintro e wx ⟨rfl, hbx⟩; have hkx : Below WB.heap.size WB wx := kb_call hbx (by assumption); have hgx := hkx.size; first | (have hrx := (Rm4.new _ _ _ _ _ _).drew.below hbx) | (have hrx := (Rm4.new _ _ _ _ _ _).below hbx) | skip) | (go_at_call 11; refine (H3.out _).mono ?_; rintro e wy ⟨rfl, hby⟩; have hky : Below WB.heap.size WB wy := kb_call hby (by assumption); have hgy := hky.size; first | (have hry := hrx.below hby) | (have hry := (Rm4.new _ _ _ _ _ _).below hby) | skip) | (obtain ⟨y0, y1, y2, y3, ⟨a0, a1, a2, a3⟩, ⟨b0, b1, b2, b3⟩⟩ := hry.all; simp (config := { decide := true }) only [a0, a1, a2, a3, b0, b1, b2, b3, Result.andThen, World.frozen?_setCell, set_off, ne_eq, Bool.false_eq_true, reduceIte]; clear a0 a1 a2 a3 b0 b1 b2 b3; go_simp))
      all_goals (go_wp2; go_meet; first | with_reducible exact ⟨_, rfl, rfl, Lib.hid (C4.new _ _ _ _ _ _), Lib.hid (hky.alloc hgy _)⟩ | with_reducible exact ⟨_, rfl, rfl, Lib.hid (hry.c4 _ _ _ _), Lib.hid (put4_below hky hgx _ _ _ _)⟩ | with_reducible exact ⟨_, rfl, rfl, Lib.hid (hry.c4 _ _ _ _), Lib.hid (put4_below hky (Nat.le_refl _) _ _ _ _)⟩)
    case rest =>
      obtain ⟨gC, rfl, rfl, HC, HkC⟩ := hcut
      rename World => WC
      have HA2 := Lib.hid ((HA.out.kp HkB.out).kp HkC.out)
      have HB2 := Lib.hid (HB.out.kp HkC.out)
      have hkC := (hkA.trans (HkB.out.mono hkA.size)).trans (HkC.out.mono (hkA.trans (HkB.out.mono hkA.size)).size)
      clear HA HB HkB HkC
      have KP : Hid (∀ w', Below WC.heap.size WC w' → ((w'.cell? ⟨gA, 0, none⟩ = some (.int .i64 300000) ∧ w'.cell? ⟨gA, 1, none⟩ = some (.int .i64 300000) ∧ w'.cell? ⟨gA, 2, none⟩ = some (.int .i64 30000) ∧ w'.cell? ⟨gA, 3, none⟩ = some (.int .i64 36000)) ∧ (w'.cell? ⟨gB, 0, none⟩ = some (.int .i64 600000) ∧ w'.cell? ⟨gB, 1, none⟩ = some (.int .i64 600000) ∧ w'.cell? ⟨gB, 2, none⟩ = some (.int .i64 60000) ∧ w'.cell? ⟨gB, 3, none⟩ = some (.int .i64 72000)) ∧ (w'.cell? ⟨gC, 0, none⟩ = some (.int .i64 900000) ∧ w'.cell? ⟨gC, 1, none⟩ = some (.int .i64 700000) ∧ w'.cell? ⟨gC, 2, none⟩ = some (.int .i64 70000) ∧ w'.cell? ⟨gC, 3, none⟩ = some (.int .i64 84000))) ∧ Below WC.heap.size WC w') := Lib.hid (fun w' h => ⟨⟨HA2.out.kp h, HB2.out.kp h, HC.out.kp h⟩, h⟩)
      go_upto_region 4 with fail
      go_region_held3 (fun w' => ((w'.cell? ⟨gA, 0, none⟩ = some (.int .i64 300000) ∧ w'.cell? ⟨gA, 1, none⟩ = some (.int .i64 300000) ∧ w'.cell? ⟨gA, 2, none⟩ = some (.int .i64 30000) ∧ w'.cell? ⟨gA, 3, none⟩ = some (.int .i64 36000)) ∧ (w'.cell? ⟨gB, 0, none⟩ = some (.int .i64 600000) ∧ w'.cell? ⟨gB, 1, none⟩ = some (.int .i64 600000) ∧ w'.cell? ⟨gB, 2, none⟩ = some (.int .i64 60000) ∧ w'.cell? ⟨gB, 3, none⟩ = some (.int .i64 72000)) ∧ (w'.cell? ⟨gC, 0, none⟩ = some (.int .i64 900000) ∧ w'.cell? ⟨gC, 1, none⟩ = some (.int .i64 700000) ∧ w'.cell? ⟨gC, 2, none⟩ = some (.int .i64 70000) ∧ w'.cell? ⟨gC, 3, none⟩ = some (.int .i64 84000))) ∧ Below WC.heap.size WC w') (first | with_reducible exact KP.out _ kb_drew | with_reducible exact KP.out _ (by assumption)) (first | (go_at_call 20; refine (old_any _).mono ?_; rintro e wx ⟨rfl, hbx⟩; have hkx : Below WC.heap.size WC wx := kb_call hbx (by assumption)) | (go_at_call 14; refine (H4.out _).mono ?_; rintro e wy ⟨rfl, hby⟩; have hky : Below WC.heap.size WC wy := kb_call hby (by assumption)))
      rename_i hHeld
      have hk9 := hHeld.2
      go_wp2
      go_ret
      exact ⟨rfl, hkC.trans (hk9.mono hkC.size)⟩

end Go.Proofs.Ytibbgihcmcnamaa
