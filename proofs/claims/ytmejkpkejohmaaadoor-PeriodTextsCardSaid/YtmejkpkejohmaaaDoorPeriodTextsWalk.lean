/-
  What is proved: the walk of the statement PeriodTexts: the call returns true. Conditions: the tables read as their texts lay them.
-/
import Derived.Test.YtmejkpkejohmaaaDoorPdH
import Derived.Test.YtmejkpkejohmaaaDoorPdU
import Derived.Deep.RegionHeld3
namespace Go.Proofs.YtmejkpkejohmaaaDoor
open Go Go.RowKit Go.Proofs
set_option linter.unusedVariables false

/-- The four numbers that the statement looks at. -/
def four (y i y' i' : Int) : Nat → Int
  | 0 => y
  | 1 => i
  | 2 => y'
  | _ => i'
theorem four_cell (w : World) (y i y' i' : Int) (t : TypeId) : ∀ j, j < 4 → (w.alloc (.cells #[.int .i64 y, .int .i64 i, .int .i64 y', .int .i64 i'] t)).cell? ⟨w.heap.size, j, none⟩ = some (.int .i64 (four y i y' i' j)) := fun j hj => by
  rw [World.cell?_alloc_new]
  have : j = 0 ∨ j = 1 ∨ j = 2 ∨ j = 3 := by omega
  rcases this with rfl | rfl | rfl | rfl <;> rfl
def InF (x : Int) : Prop := -1125899906842624 ≤ x ∧ x ≤ 1125899906842624

set_option maxHeartbeats 4000000 in
set_option maxRecDepth 100000 in
theorem walkPeriodTexts (y i n a b p y' i' n' a' b' p' : Int) (w : World) (wp : (-9223372036854775808 ≤ y ∧ y ≤ 9223372036854775807) ∧ (-9223372036854775808 ≤ i ∧ i ≤ 9223372036854775807) ∧ (-9223372036854775808 ≤ n ∧ n ≤ 9223372036854775807) ∧ (-9223372036854775808 ≤ a ∧ a ≤ 9223372036854775807) ∧ (-9223372036854775808 ≤ b ∧ b ≤ 9223372036854775807) ∧ (-9223372036854775808 ≤ p ∧ p ≤ 9223372036854775807)) (wq : (-9223372036854775808 ≤ y' ∧ y' ≤ 9223372036854775807) ∧ (-9223372036854775808 ≤ i' ∧ i' ≤ 9223372036854775807) ∧ (-9223372036854775808 ≤ n' ∧ n' ≤ 9223372036854775807) ∧ (-9223372036854775808 ≤ a' ∧ a' ≤ 9223372036854775807) ∧ (-9223372036854775808 ≤ b' ∧ b' ≤ 9223372036854775807) ∧ (-9223372036854775808 ≤ p' ∧ p' ≤ 9223372036854775807)) (hT : Tab3 w) :
    Calls Tryd.prog 8 #[.agg #[.int .i64 y, .int .i64 i, .int .i64 n, .int .i64 a, .int .i64 b, .int .i64 p], .agg #[.int .i64 y', .int .i64 i', .int .i64 n', .int .i64 a', .int .i64 b', .int .i64 p']] w fun e w' => e = .returned (.bool true) ∧ Below w.heap.size w w' := by
  have HX := Lib.hid (fun W hT => Text_any y i n a b p W hT wp.1.1 wp.1.2 wp.2.1.1 wp.2.1.2)
  have HR := Lib.hid (fun W => rText_any y i n a b p W)
  have HL := fun W => Less_any y i n a b p y' i' n' a' b' p' W
  obtain ⟨X, hX⟩ : ∃ X, X = txtB y i := ⟨_, rfl⟩
  rw [← hX] at HX HR
  clear hX
  obtain ⟨W1, hW1⟩ : ∃ W1, W1 = (w.alloc (.cells #[.int .i64 y, .int .i64 i, .int .i64 n, .int .i64 a, .int .i64 b, .int .i64 p] 30)).alloc (.cells #[.int .i64 y', .int .i64 i', .int .i64 n', .int .i64 a', .int .i64 b', .int .i64 p'] 30) := ⟨_, rfl⟩
  have hza : (w.alloc (.cells #[.int .i64 y, .int .i64 i, .int .i64 n, .int .i64 a, .int .i64 b, .int .i64 p] 30)).heap.size = w.heap.size + 1 := by simp
  have hz1 : W1.heap.size = w.heap.size + 1 + 1 := by rw [hW1]; simp
  have hb1 : Below (w.alloc (.cells #[.int .i64 y, .int .i64 i, .int .i64 n, .int .i64 a, .int .i64 b, .int .i64 p] 30)).heap.size (w.alloc (.cells #[.int .i64 y, .int .i64 i, .int .i64 n, .int .i64 a, .int .i64 b, .int .i64 p] 30)) W1 := by rw [hW1]; exact (Below.refl _ _).alloc (Nat.le_refl _) _
  have P1 : PerAt W1 w.heap.size y i n a b p := PerAt.stay (new6 _ _ _ _ _ _ _ _) hb1
  have Q1 : PerAt W1 (w.heap.size + 1) y' i' n' a' b' p' := by rw [hW1, ← hza]; exact new6 _ _ _ _ _ _ _ _
  obtain ⟨W2, hW2⟩ : ∃ W2, W2 = W1.alloc (.cells #[.int .i64 y, .int .i64 i, .int .i64 y', .int .i64 i'] 3) := ⟨_, rfl⟩
  have hb2 : Below W1.heap.size W1 W2 := by rw [hW2]; exact (Below.refl _ _).alloc (Nat.le_refl _) _
  have P2 := P1.stay hb2
  have Q2 := Q1.stay hb2
  have F2 : Hid (∀ j, j < 4 → W2.cell? ⟨w.heap.size + 1 + 1, j, none⟩ = some (.int .i64 (four y i y' i' j))) := Lib.hid (by rw [hW2, ← hz1]; exact four_cell W1 y i y' i' _)
  have hb01 : Below w.heap.size w W1 := by rw [hW1]; exact ((Below.refl w.heap.size w).alloc (Nat.le_refl _) _).alloc (by simp) _
  have hb0 := hb01.trans (hb2.mono hb01.size)
  have T2 := Lib.hid (hT.stay hb0)
  have HA := Lib.hid (awake_any W2 T2.out)
  have HP := Lib.hid P2
  have HQ := Lib.hid Q2
  have KP : Hid (∀ w', Below W2.heap.size W2 w' → (w'.cell? ⟨w.heap.size, 0, none⟩ = some (.int .i64 y) ∧ w'.cell? ⟨w.heap.size, 1, none⟩ = some (.int .i64 i) ∧ w'.cell? ⟨w.heap.size, 2, none⟩ = some (.int .i64 n) ∧ w'.cell? ⟨w.heap.size, 3, none⟩ = some (.int .i64 a) ∧ w'.cell? ⟨w.heap.size, 4, none⟩ = some (.int .i64 b) ∧ w'.cell? ⟨w.heap.size, 5, none⟩ = some (.int .i64 p) ∧ w'.cell? ⟨w.heap.size + 1, 0, none⟩ = some (.int .i64 y') ∧ w'.cell? ⟨w.heap.size + 1, 1, none⟩ = some (.int .i64 i') ∧ w'.cell? ⟨w.heap.size + 1, 2, none⟩ = some (.int .i64 n') ∧ w'.cell? ⟨w.heap.size + 1, 3, none⟩ = some (.int .i64 a') ∧ w'.cell? ⟨w.heap.size + 1, 4, none⟩ = some (.int .i64 b') ∧ w'.cell? ⟨w.heap.size + 1, 5, none⟩ = some (.int .i64 p')) ∧ Below W2.heap.size W2 w') := Lib.hid (fun w' h => by
    obtain ⟨p0, p1, p2, p3, p4, p5⟩ := HP.out.stay h
    obtain ⟨q0, q1, q2, q3, q4, q5⟩ := HQ.out.stay h
    exact ⟨⟨p0, p1, p2, p3, p4, p5, q0, q1, q2, q3, q4, q5⟩, h⟩)
  obtain ⟨p0, p1, p2, p3, p4, p5⟩ := P2
  obtain ⟨q0, q1, q2, q3, q4, q5⟩ := Q2
  obtain ⟨r0, r1, r2, r3, r4, r5⟩ := P1
  obtain ⟨s0, s1, s2, s3, s4, s5⟩ := Q1
  rw [hW1] at r0 r1 r2 r3 r4 r5 s0 s1 s2 s3 s4 s5
  clear hT wp wq hb1 hb2 hb01 hza
  go_enter Tryd.func8, Tryd.ntmps8
  go_wp2
  rw [hW1] at hW2
  rw [← hW2]
  clear hW1 hW2 hz1 r0 r1 r2 r3 r4 r5 s0 s1 s2 s3 s4 s5
  go_loop [18] (fun iv => ∃ j : Nat, j ≤ 4 ∧ iv = .int .i64 j ∧ Hid (∀ k, k < j → InF (four y i y' i' k))) (fun iv => 4 - (RowKit.intOf iv).toNat)
  case atStart => exact ⟨0, by omega, rfl, Lib.hid (fun k hk => absurd hk (by omega))⟩
  case round =>
    obtain ⟨j, hj, rfl, HF⟩ := hrel
    by_cases hlt : j < 4
    · have hc := F2.out j hlt
      have HN : Hid (InF (four y i y' i' j) → ∀ k, k < j + 1 → InF (four y i y' i' k)) := Lib.hid (fun h k hk => by
        rcases Nat.lt_or_ge k j with h1 | h1
        · exact HF.out k h1
        · rw [show k = j by omega]; exact h)
      generalize four y i y' i' j = x at hc HN
      clear HF
      by_cases h1 : x < -1125899906842624
      · clear HN
        go_wp2_with fail
        refine (HA.out).mono ?_
        rintro e w3 ⟨rfl, hb3⟩
        go_wp2
        go_ret
        exact ⟨rfl, hb0.trans (hb3.mono hb0.size)⟩
      · by_cases h2 : 1125899906842624 < x
        · clear HN
          go_wp2_with fail
          refine (HA.out).mono ?_
          rintro e w3 ⟨rfl, hb3⟩
          go_wp2
          go_ret
          exact ⟨rfl, hb0.trans (hb3.mono hb0.size)⟩
        · have HN2 := Lib.hid (HN.out ⟨by omega, by omega⟩)
          clear HN
          go_wp2
          go_round
          case rel => exact ⟨j + 1, by omega, by go_num, HN2⟩
          case measure => simp [RowKit.intOf]; omega
    · obtain rfl : j = 4 := by omega
      have f0 : InF y := HF.out 0 (by omega)
      have f1 : InF i := HF.out 1 (by omega)
      have hr := Lib.hid (And.intro f0.1 (And.intro f0.2 (And.intro f1.1 f1.2)))
      clear HF F2 HA f0 f1 hj hlt
      rcases Int.lt_trichotomy y y' with h | h | h
      · have d1 : decide (y < y' ∨ (y = y' ∧ i < i')) = true := decide_eq_true (.inl h)
        rw [d1] at HL
        have HL := Lib.hid HL
        clear d1
        go_wp2
        go_region_held3 (fun w' => (w'.cell? ⟨w.heap.size, 0, none⟩ = some (.int .i64 y) ∧ w'.cell? ⟨w.heap.size, 1, none⟩ = some (.int .i64 i) ∧ w'.cell? ⟨w.heap.size, 2, none⟩ = some (.int .i64 n) ∧ w'.cell? ⟨w.heap.size, 3, none⟩ = some (.int .i64 a) ∧ w'.cell? ⟨w.heap.size, 4, none⟩ = some (.int .i64 b) ∧ w'.cell? ⟨w.heap.size, 5, none⟩ = some (.int .i64 p) ∧ w'.cell? ⟨w.heap.size + 1, 0, none⟩ = some (.int .i64 y') ∧ w'.cell? ⟨w.heap.size + 1, 1, none⟩ = some (.int .i64 i') ∧ w'.cell? ⟨w.heap.size + 1, 2, none⟩ = some (.int .i64 n') ∧ w'.cell? ⟨w.heap.size + 1, 3, none⟩ = some (.int .i64 a') ∧ w'.cell? ⟨w.heap.size + 1, 4, none⟩ = some (.int .i64 b') ∧ w'.cell? ⟨w.heap.size + 1, 5, none⟩ = some (.int .i64 p')) ∧ Below W2.heap.size W2 w') (first | with_reducible exact KP.out _ kb_drew | with_reducible exact KP.out _ (by assumption)) (first | (go_at_call 10; refine (awake_any _ (T2.out.stay (And.right (by assumption)))).mono ?_; rintro e wa ⟨rfl, hba⟩; have hka : Below W2.heap.size W2 wa := kb_call hba (by assumption)) | (go_at_call 23; refine (HX.out _ (T2.out.stay (And.right (by assumption)))).mono ?_; rintro e wb ⟨rfl, hbb⟩; have hkb : Below W2.heap.size W2 wb := kb_call hbb (by assumption)) | (go_at_call 24; refine (HR.out _ hr.out.1 hr.out.2.1 hr.out.2.2.1 hr.out.2.2.2).mono ?_; rintro e wc ⟨rfl, hbc⟩; have hkc : Below W2.heap.size W2 wc := kb_call hbc (by assumption)) | (go_at_call 12; refine (HL.out _).mono ?_; rintro e wd ⟨rfl, hbd⟩; have hkd : Below W2.heap.size W2 wd := kb_call hbd (by assumption)))
        all_goals (go_wp2; go_ret; exact ⟨by simp, hb0.trans (Below.mono (by assumption) hb0.size)⟩)
      · have e1 : (y == y') = true := by simpa using h
        have e2 : ¬ y < y' := by omega
        by_cases h4 : i < i'
        · have d1 : decide (y < y' ∨ (y = y' ∧ i < i')) = true := decide_eq_true (.inr ⟨h, h4⟩)
          rw [d1] at HL
          have HL := Lib.hid HL
          clear d1 h
          go_wp2
          go_region_held3 (fun w' => (w'.cell? ⟨w.heap.size, 0, none⟩ = some (.int .i64 y) ∧ w'.cell? ⟨w.heap.size, 1, none⟩ = some (.int .i64 i) ∧ w'.cell? ⟨w.heap.size, 2, none⟩ = some (.int .i64 n) ∧ w'.cell? ⟨w.heap.size, 3, none⟩ = some (.int .i64 a) ∧ w'.cell? ⟨w.heap.size, 4, none⟩ = some (.int .i64 b) ∧ w'.cell? ⟨w.heap.size, 5, none⟩ = some (.int .i64 p) ∧ w'.cell? ⟨w.heap.size + 1, 0, none⟩ = some (.int .i64 y') ∧ w'.cell? ⟨w.heap.size + 1, 1, none⟩ = some (.int .i64 i') ∧ w'.cell? ⟨w.heap.size + 1, 2, none⟩ = some (.int .i64 n') ∧ w'.cell? ⟨w.heap.size + 1, 3, none⟩ = some (.int .i64 a') ∧ w'.cell? ⟨w.heap.size + 1, 4, none⟩ = some (.int .i64 b') ∧ w'.cell? ⟨w.heap.size + 1, 5, none⟩ = some (.int .i64 p')) ∧ Below W2.heap.size W2 w') (first | with_reducible exact KP.out _ kb_drew | with_reducible exact KP.out _ (by assumption)) (first | (go_at_call 10; refine (awake_any _ (T2.out.stay (And.right (by assumption)))).mono ?_; rintro e wa ⟨rfl, hba⟩; have hka : Below W2.heap.size W2 wa := kb_call hba (by assumption)) | (go_at_call 23; refine (HX.out _ (T2.out.stay (And.right (by assumption)))).mono ?_; rintro e wb ⟨rfl, hbb⟩; have hkb : Below W2.heap.size W2 wb := kb_call hbb (by assumption)) | (go_at_call 24; refine (HR.out _ hr.out.1 hr.out.2.1 hr.out.2.2.1 hr.out.2.2.2).mono ?_; rintro e wc ⟨rfl, hbc⟩; have hkc : Below W2.heap.size W2 wc := kb_call hbc (by assumption)) | (go_at_call 12; refine (HL.out _).mono ?_; rintro e wd ⟨rfl, hbd⟩; have hkd : Below W2.heap.size W2 wd := kb_call hbd (by assumption)))
          all_goals (go_wp2; go_ret; exact ⟨by simp, hb0.trans (Below.mono (by assumption) hb0.size)⟩)
        · have d1 : decide (y < y' ∨ (y = y' ∧ i < i')) = false := decide_eq_false (by omega)
          rw [d1] at HL
          have HL := Lib.hid HL
          clear d1 h
          go_wp2
          go_region_held3 (fun w' => (w'.cell? ⟨w.heap.size, 0, none⟩ = some (.int .i64 y) ∧ w'.cell? ⟨w.heap.size, 1, none⟩ = some (.int .i64 i) ∧ w'.cell? ⟨w.heap.size, 2, none⟩ = some (.int .i64 n) ∧ w'.cell? ⟨w.heap.size, 3, none⟩ = some (.int .i64 a) ∧ w'.cell? ⟨w.heap.size, 4, none⟩ = some (.int .i64 b) ∧ w'.cell? ⟨w.heap.size, 5, none⟩ = some (.int .i64 p) ∧ w'.cell? ⟨w.heap.size + 1, 0, none⟩ = some (.int .i64 y') ∧ w'.cell? ⟨w.heap.size + 1, 1, none⟩ = some (.int .i64 i') ∧ w'.cell? ⟨w.heap.size + 1, 2, none⟩ = some (.int .i64 n') ∧ w'.cell? ⟨w.heap.size + 1, 3, none⟩ = some (.int .i64 a') ∧ w'.cell? ⟨w.heap.size + 1, 4, none⟩ = some (.int .i64 b') ∧ w'.cell? ⟨w.heap.size + 1, 5, none⟩ = some (.int .i64 p')) ∧ Below W2.heap.size W2 w') (first | with_reducible exact KP.out _ kb_drew | with_reducible exact KP.out _ (by assumption)) (first | (go_at_call 10; refine (awake_any _ (T2.out.stay (And.right (by assumption)))).mono ?_; rintro e wa ⟨rfl, hba⟩; have hka : Below W2.heap.size W2 wa := kb_call hba (by assumption)) | (go_at_call 23; refine (HX.out _ (T2.out.stay (And.right (by assumption)))).mono ?_; rintro e wb ⟨rfl, hbb⟩; have hkb : Below W2.heap.size W2 wb := kb_call hbb (by assumption)) | (go_at_call 24; refine (HR.out _ hr.out.1 hr.out.2.1 hr.out.2.2.1 hr.out.2.2.2).mono ?_; rintro e wc ⟨rfl, hbc⟩; have hkc : Below W2.heap.size W2 wc := kb_call hbc (by assumption)) | (go_at_call 12; refine (HL.out _).mono ?_; rintro e wd ⟨rfl, hbd⟩; have hkd : Below W2.heap.size W2 wd := kb_call hbd (by assumption)))
          all_goals (go_wp2; go_ret; exact ⟨by simp, hb0.trans (Below.mono (by assumption) hb0.size)⟩)
      · have e1 : (y == y') = false := by simp; omega
        have e2 : ¬ y < y' := by omega
        have d1 : decide (y < y' ∨ (y = y' ∧ i < i')) = false := decide_eq_false (by omega)
        rw [d1] at HL
        have HL := Lib.hid HL
        clear d1
        go_wp2
        go_region_held3 (fun w' => (w'.cell? ⟨w.heap.size, 0, none⟩ = some (.int .i64 y) ∧ w'.cell? ⟨w.heap.size, 1, none⟩ = some (.int .i64 i) ∧ w'.cell? ⟨w.heap.size, 2, none⟩ = some (.int .i64 n) ∧ w'.cell? ⟨w.heap.size, 3, none⟩ = some (.int .i64 a) ∧ w'.cell? ⟨w.heap.size, 4, none⟩ = some (.int .i64 b) ∧ w'.cell? ⟨w.heap.size, 5, none⟩ = some (.int .i64 p) ∧ w'.cell? ⟨w.heap.size + 1, 0, none⟩ = some (.int .i64 y') ∧ w'.cell? ⟨w.heap.size + 1, 1, none⟩ = some (.int .i64 i') ∧ w'.cell? ⟨w.heap.size + 1, 2, none⟩ = some (.int .i64 n') ∧ w'.cell? ⟨w.heap.size + 1, 3, none⟩ = some (.int .i64 a') ∧ w'.cell? ⟨w.heap.size + 1, 4, none⟩ = some (.int .i64 b') ∧ w'.cell? ⟨w.heap.size + 1, 5, none⟩ = some (.int .i64 p')) ∧ Below W2.heap.size W2 w') (first | with_reducible exact KP.out _ kb_drew | with_reducible exact KP.out _ (by assumption)) (first | (go_at_call 10; refine (awake_any _ (T2.out.stay (And.right (by assumption)))).mono ?_; rintro e wa ⟨rfl, hba⟩; have hka : Below W2.heap.size W2 wa := kb_call hba (by assumption)) | (go_at_call 23; refine (HX.out _ (T2.out.stay (And.right (by assumption)))).mono ?_; rintro e wb ⟨rfl, hbb⟩; have hkb : Below W2.heap.size W2 wb := kb_call hbb (by assumption)) | (go_at_call 24; refine (HR.out _ hr.out.1 hr.out.2.1 hr.out.2.2.1 hr.out.2.2.2).mono ?_; rintro e wc ⟨rfl, hbc⟩; have hkc : Below W2.heap.size W2 wc := kb_call hbc (by assumption)) | (go_at_call 12; refine (HL.out _).mono ?_; rintro e wd ⟨rfl, hbd⟩; have hkd : Below W2.heap.size W2 wd := kb_call hbd (by assumption)))
        all_goals (go_wp2; go_ret; exact ⟨by simp, hb0.trans (Below.mono (by assumption) hb0.size)⟩)

end Go.Proofs.YtmejkpkejohmaaaDoor
