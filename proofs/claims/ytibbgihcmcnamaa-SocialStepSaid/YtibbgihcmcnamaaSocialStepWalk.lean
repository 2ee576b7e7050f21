/-
  What is proved: the walk of the statement SocialStep: the call returns true. Conditions: what came in is as the frame says.
-/
import Derived.Test.YtibbgihcmcnamaaSoL
import Derived.Test.YtibbgihcmcnamaaFrameZ
namespace Go.Proofs.Ytibbgihcmcnamaa
open Go Go.RowKit Go.Lib Go.Proofs
set_option linter.unusedVariables false

set_option maxHeartbeats 8000000 in
set_option maxRecDepth 100000 in
theorem walkSocialStep (a b c d : Int) (s : ByteArray) (x y z base : Int) (w : World) (hs : s.size ≤ maxLen) (_ : (Lit.int .i64 base).wf = true) :
    Calls Try.prog 3 #[.agg #[.int .i64 a, .int .i64 b, .int .i64 c, .int .i64 d], .agg #[.string s, .int .i64 x, .int .i64 y, .int .i64 z], .int .i64 base] w fun e w' => e = .returned (.bool true) ∧ Below w.heap.size w w' := by
  unfold maxLen at hs
  have HT := Lib.hid (fun (hs : s.size ≤ 300) W => Step_any a b c d s x y z base (by omega) W)
  have HU := Lib.hid (fun (hs : s.size ≤ 300) W => rStep_any a b c d s x y z base (by omega) W)
  have HM := Lib.hid (fun (hs : s.size ≤ 300) W => Room_any a b c d s x y z (by omega) W)
  have HN := Lib.hid (fun (hs : s.size ≤ 300) W => rRoom_any a b c d s x y z (by omega) W)
  generalize stepV a b c d (nameL s.data.toList) x y z base = V at HT HU
  generalize stepE a b c d (nameL s.data.toList) x y z base = E at HT HU
  generalize RoomV a b c d (nameL s.data.toList) x y z = R at HM HN
  obtain ⟨v0, v1, v2, v3⟩ := V
  dsimp only at HT HU
  obtain ⟨W0, hW0⟩ : ∃ W0, W0 = (w.alloc (.cells #[.int .i64 a, .int .i64 b, .int .i64 c, .int .i64 d] 24)).alloc (.cells #[.string s, .int .i64 x, .int .i64 y, .int .i64 z] 27) := ⟨_, rfl⟩
  have hb0 : Below w.heap.size w W0 := by rw [hW0]; exact ((Below.refl w.heap.size w).alloc (Nat.le_refl _) _).alloc (by simp) _
  have z1 : (w.alloc (.cells #[.int .i64 a, .int .i64 b, .int .i64 c, .int .i64 d] 24)).heap.size = w.heap.size + 1 := by simp
  have h4 : C4 W0 w.heap.size a b c d := by
    rw [hW0]
    exact (C4.new w a b c d _).kp ((Below.refl _ _).alloc (Nat.le_refl _) _)
  have hS : Sc W0 (w.heap.size + 1) s x y z := by
    rw [hW0, ← z1]
    exact Sc.new _ s x y z _
  clear z1
  have hsz : W0.heap.size = w.heap.size + 1 + 1 := by rw [hW0]; simp
  replace hsz := Lib.hid hsz
  have H4 := Lib.hid h4
  have HS := Lib.hid hS
  clear h4 hS
  go_enter Try.func3, Try.ntmps3
  go_upto_region 1 with fail
  rw [← hW0]
  clear hW0
  go_wp2_with fail
  refine (awake_any _).mono ?_
  rintro e w1 ⟨rfl, hb1⟩
  have hk1 := hb0.trans (hb1.mono hb0.size)
  obtain ⟨s0, s1, s2, s3⟩ := HS.out.kp hb1
  obtain ⟨c0, c1, c2, c3⟩ := H4.out.kp hb1
  by_cases hl : s.size ≤ 300
  case neg =>
    have i1 : ¬ (s.size : Int) ≤ 300 := by omega
    go_wp2
    go_ret
    exact ⟨rfl, hk1⟩
  case pos =>
    have i1 : (s.size : Int) ≤ 300 := by omega
    go_wp2_with fail
    refine (HT.out hl _).mono ?_
    rintro e w2 ⟨rfl, hb2⟩
    have hk2 := hk1.trans (hb2.mono hk1.size)
    have hA : C4 (w2.alloc (.cells #[.int .i64 v0, .int .i64 v1, .int .i64 v2, .int .i64 v3] 24)) w2.heap.size v0 v1 v2 v3 := C4.new _ _ _ _ _ _
    have hb3 : Below w2.heap.size w2 (w2.alloc (.cells #[.int .i64 v0, .int .i64 v1, .int .i64 v2, .int .i64 v3] 24)) := (Below.refl _ _).alloc (Nat.le_refl _) _
    have HS3 := Lib.hid (((HS.out.kp hb1).kp hb2).kp hb3)
    have H43 := Lib.hid (((H4.out.kp hb1).kp hb2).kp hb3)
    have hk3 := hk2.trans (hb3.mono hk2.size)
    clear c0 c1 c2 c3 s0 s1 s2 s3 HS H4 hb1 hb2 hb3
    go_upto_region 6 with fail
    generalize (w2.alloc (.cells #[.int .i64 v0, .int .i64 v1, .int .i64 v2, .int .i64 v3] 24)) = WA at hA hk3 HS3 H43 ⊢
    generalize w2.heap.size = g7 at hA ⊢
    have HA := Lib.hid hA
    clear hA
    go_cut [9, 10] (fun s12 s13 wx => ∃ g, s12 = .pointer (some ⟨g, 0, none⟩) ∧ s13 = .int .i64 E ∧ Hid (C4 wx g v0 v1 v2 v3) ∧ Hid (Below WA.heap.size WA wx))
    case first =>
      have KP : Hid (∀ w', Below WA.heap.size WA w' → ((w'.cell? ⟨w.heap.size, 0, none⟩ = some (.int .i64 a) ∧ w'.cell? ⟨w.heap.size, 1, none⟩ = some (.int .i64 b) ∧ w'.cell? ⟨w.heap.size, 2, none⟩ = some (.int .i64 c) ∧ w'.cell? ⟨w.heap.size, 3, none⟩ = some (.int .i64 d)) ∧ (w'.cell? ⟨(w.heap.size + 1), 0, none⟩ = some (.string s) ∧ w'.cell? ⟨(w.heap.size + 1), 1, none⟩ = some (.int .i64 x) ∧ w'.cell? ⟨(w.heap.size + 1), 2, none⟩ = some (.int .i64 y) ∧ w'.cell? ⟨(w.heap.size + 1), 3, none⟩ = some (.int .i64 z)) ∧ (w'.cell? ⟨g7, 0, none⟩ = some (.int .i64 v0) ∧ w'.cell? ⟨g7, 1, none⟩ = some (.int .i64 v1) ∧ w'.cell? ⟨g7, 2, none⟩ = some (.int .i64 v2) ∧ w'.cell? ⟨g7, 3, none⟩ = some (.int .i64 v3))) ∧ Below WA.heap.size WA w') := Lib.hid (fun w' h => ⟨⟨H43.out.kp h, HS3.out.kp h, HA.out.kp h⟩, h⟩)
      go_region_held3 (fun w' => ((w'.cell? ⟨w.heap.size, 0, none⟩ = some (.int .i64 a) ∧ w'.cell? ⟨w.heap.size, 1, none⟩ = some (.int .i64 b) ∧ w'.cell? ⟨w.heap.size, 2, none⟩ = some (.int .i64 c) ∧ w'.cell? ⟨w.heap.size, 3, none⟩ = some (.int .i64 d)) ∧ (w'.cell? ⟨(w.heap.size + 1), 0, none⟩ = some (.string s) ∧ w'.cell? ⟨(w.heap.size + 1), 1, none⟩ = some (.int .i64 x) ∧ w'.cell? ⟨(w.heap.size + 1), 2, none⟩ = some (.int .i64 y) ∧ w'.cell? ⟨(w.heap.size + 1), 3, none⟩ = some (.int .i64 z)) ∧ (w'.cell? ⟨g7, 0, none⟩ = some (.int .i64 v0) ∧ w'.cell? ⟨g7, 1, none⟩ = some (.int .i64 v1) ∧ w'.cell? ⟨g7, 2, none⟩ = some (.int .i64 v2) ∧ w'.cell? ⟨g7, 3, none⟩ = some (.int .i64 v3))) ∧ Below WA.heap.size WA w') (first | with_reducible exact KP.out _ (put4_below hky (Nat.le_refl _) _ _ _ _) | with_reducible exact KP.out _ (put4_below hky hgx _ _ _ _) | with_reducible exact KP.out _ kb_drew | with_reducible exact KP.out _ (by assumption) | with_reducible exact KP.out _ (Below.alloc (by assumption) (by assumption) _) | with_reducible exact KP.out _ (Below.alloc kb_drew (Below.size kb_drew) _) | with_reducible exact KP.out _ (Below.drew (Below.alloc (Below.refl _ _) (Nat.le_refl _) _))) (first | (go_at_call 13; refine (of_any _ _ _ _ _).mono ?_; rintro e wx ⟨rfl, hbx⟩; have hkx : Below WA.heap.size WA wx := kb_call hbx (by assumption); have hgx := hkx.size; first | (have hrx := (Rm4.new _ _ _ _ _ _).drew.below hbx) | (have hrx := (Rm4.new _ _ _ _ _ _).below hbx) | skip) | (go_at_call 12; refine (HU.out hl _).mono ?_; rintro e wy ⟨rfl, hby⟩; have hky : Below WA.heap.size WA wy := kb_call hby (by assumption); have hgy := hky.size; first | (have hry := hrx.below hby) | (have hry := (Rm4.new _ _ _ _ _ _).below hby) | skip) | (obtain ⟨y0, y1, y2, y3, ⟨a0, a1, a2, a3⟩, ⟨b0, b1, b2, b3⟩⟩ := hry.all; simp (config := { decide := true }) only [a0, a1, a2, a3, b0, b1, b2, b3, Result.andThen, World.frozen?_setCell, set_off, ne_eq, Bool.false_eq_true, reduceIte]; clear a0 a1 a2 a3 b0 b1 b2 b3; go_simp))
      all_goals (go_wp2; go_meet; first | with_reducible exact ⟨_, rfl, rfl, Lib.hid (C4.new _ _ _ _ _ _), Lib.hid (hky.alloc hgy _)⟩ | with_reducible exact ⟨_, rfl, rfl, Lib.hid (hry.c4 _ _ _ _), Lib.hid (put4_below hky hgx _ _ _ _)⟩ | with_reducible exact ⟨_, rfl, rfl, Lib.hid (hry.c4 _ _ _ _), Lib.hid (put4_below hky (Nat.le_refl _) _ _ _ _)⟩)
    case rest =>
      obtain ⟨g9, rfl, rfl, HC, HkC⟩ := hcut
      rename World => WC
      have HA2 := Lib.hid (HA.out.kp HkC.out)
      have HS2 := Lib.hid (HS3.out.kp HkC.out)
      have H42 := Lib.hid (H43.out.kp HkC.out)
      have hkC := hk3.trans (HkC.out.mono hk3.size)
      clear HA HS3 H43 HkC
      have KP : Hid (∀ w', Below WC.heap.size WC w' → ((w'.cell? ⟨w.heap.size, 0, none⟩ = some (.int .i64 a) ∧ w'.cell? ⟨w.heap.size, 1, none⟩ = some (.int .i64 b) ∧ w'.cell? ⟨w.heap.size, 2, none⟩ = some (.int .i64 c) ∧ w'.cell? ⟨w.heap.size, 3, none⟩ = some (.int .i64 d)) ∧ (w'.cell? ⟨(w.heap.size + 1), 0, none⟩ = some (.string s) ∧ w'.cell? ⟨(w.heap.size + 1), 1, none⟩ = some (.int .i64 x) ∧ w'.cell? ⟨(w.heap.size + 1), 2, none⟩ = some (.int .i64 y) ∧ w'.cell? ⟨(w.heap.size + 1), 3, none⟩ = some (.int .i64 z)) ∧ (w'.cell? ⟨g7, 0, none⟩ = some (.int .i64 v0) ∧ w'.cell? ⟨g7, 1, none⟩ = some (.int .i64 v1) ∧ w'.cell? ⟨g7, 2, none⟩ = some (.int .i64 v2) ∧ w'.cell? ⟨g7, 3, none⟩ = some (.int .i64 v3)) ∧ (w'.cell? ⟨g9, 0, none⟩ = some (.int .i64 v0) ∧ w'.cell? ⟨g9, 1, none⟩ = some (.int .i64 v1) ∧ w'.cell? ⟨g9, 2, none⟩ = some (.int .i64 v2) ∧ w'.cell? ⟨g9, 3, none⟩ = some (.int .i64 v3))) ∧ Below WC.heap.size WC w') := Lib.hid (fun w' h => ⟨⟨H42.out.kp h, HS2.out.kp h, HA2.out.kp h, HC.out.kp h⟩, h⟩)
      have e0 : (v0 == v0) = true := by simp
      have e1 : (v1 == v1) = true := by simp
      have e2 : (v2 == v2) = true := by simp
      have e3 : (v3 == v3) = true := by simp
      have e4 : (E == E) = true := by simp
      have e5 : (R == R) = true := by simp
      go_upto_region 7 with fail
      go_region_held3 (fun w' => ((w'.cell? ⟨w.heap.size, 0, none⟩ = some (.int .i64 a) ∧ w'.cell? ⟨w.heap.size, 1, none⟩ = some (.int .i64 b) ∧ w'.cell? ⟨w.heap.size, 2, none⟩ = some (.int .i64 c) ∧ w'.cell? ⟨w.heap.size, 3, none⟩ = some (.int .i64 d)) ∧ (w'.cell? ⟨(w.heap.size + 1), 0, none⟩ = some (.string s) ∧ w'.cell? ⟨(w.heap.size + 1), 1, none⟩ = some (.int .i64 x) ∧ w'.cell? ⟨(w.heap.size + 1), 2, none⟩ = some (.int .i64 y) ∧ w'.cell? ⟨(w.heap.size + 1), 3, none⟩ = some (.int .i64 z)) ∧ (w'.cell? ⟨g7, 0, none⟩ = some (.int .i64 v0) ∧ w'.cell? ⟨g7, 1, none⟩ = some (.int .i64 v1) ∧ w'.cell? ⟨g7, 2, none⟩ = some (.int .i64 v2) ∧ w'.cell? ⟨g7, 3, none⟩ = some (.int .i64 v3)) ∧ (w'.cell? ⟨g9, 0, none⟩ = some (.int .i64 v0) ∧ w'.cell? ⟨g9, 1, none⟩ = some (.int .i64 v1) ∧ w'.cell? ⟨g9, 2, none⟩ = some (.int .i64 v2) ∧ w'.cell? ⟨g9, 3, none⟩ = some (.int .i64 v3))) ∧ Below WC.heap.size WC w') (first | with_reducible exact KP.out _ kb_drew | with_reducible exact KP.out _ (by assumption)) (first | (go_at_call 13; refine (of_any _ _ _ _ _).mono ?_; rintro e wx ⟨rfl, hbx⟩; have hkx : Below WC.heap.size WC wx := kb_call hbx (by assumption)) | (go_at_call 14; refine (HM.out hl _).mono ?_; rintro e wy ⟨rfl, hby⟩; have hky : Below WC.heap.size WC wy := kb_call hby (by assumption)) | (go_at_call 15; refine (HN.out hl _).mono ?_; rintro e wz ⟨rfl, hbz⟩; have hkz : Below WC.heap.size WC wz := kb_call hbz (by assumption)))
      rename_i hHeld
      have hk9 := hHeld.2
      go_wp2
      go_ret
      exact ⟨rfl, hkC.trans (hk9.mono hkC.size)⟩

end Go.Proofs.Ytibbgihcmcnamaa
