/-
  What is proved: the contracts of the document's own Loss, Of and Salary's parts: what they come to is what prorate's own functions come to. Conditions: every number is of 64 bits.
-/
import Derived.Test.YtamglmenljgbdaaPrB
namespace Go.Proofs.Ytamglmenljgbdaa
open Go Go.RowKit Go.Proofs

set_option maxHeartbeats 8000000 in
set_option maxRecDepth 100000 in
theorem rLoss_any (a b c m l p : Int) (w : World) (ha : in64 a) (hb : in64 b) : Calls Try.prog 18 #[.agg #[.int .i64 a, .int .i64 b], .int .i64 c, .int .i64 m, .int .i64 l, .int .i64 p] w
    fun e w' => e = .returned (.tuple #[.int .i64 (lossVE (kk a b) c m l p).1, .int .i64 (lossVE (kk a b) c m l p).2]) ∧ Below w.heap.size w w' := by
  have HL := Lib.hid (fun W => rdays_any a b W ha hb)
  have hk := kk_bd a b
  have he := kk_367 a b
  have hd := d367_bd a b
  generalize d367 a b = K at HL he hd
  generalize kk a b = k at he hk ⊢
  have hb0 := (Below.refl w.heap.size w).alloc (Nat.le_refl _) (.cells #[.int .i64 a, .int .i64 b] 24)
  have hall : ∀ x : Int, x = k → (366 < K ∧ x = 366) ∨ (¬ 366 < K ∧ x = K) := fun x hx => by subst hx; split at he <;> simp_all
  rcases hall k rfl with ⟨hK, hx⟩ | ⟨hK, hx⟩
  all_goals
    have hc := loss_cases k c m l p
    clear hall he
    subst hx
    rcases hc with hf | ⟨hf, h1⟩ | ⟨hf, h1, h2⟩ | ⟨hf, h1, h2, h3⟩ | ⟨hf, h1, h2, h3, h4⟩ | ⟨hf, h1, h2, h3, h4, h5⟩ | ⟨hf, h1, h2, h3, h4, h5, h6⟩ | hok
  all_goals try (
    rw [show lossVE _ c m l p = (0, 2) by unfold lossVE; rw [if_neg (fun h => by obtain ⟨g0, g1, g2, g3, g4, g5, g6⟩ := h; first | omega | (rw [g0] at hf; exact absurd hf (by decide)))]]
    first | (have h2' : 1440 * k < m := by omega) | (have h2' : ¬ 1440 * k < m := by omega) | (have h2' : (527040 : Int) < m := by omega) | (have h2' : ¬ (527040 : Int) < m := by omega) | skip
    try (have hw : RowKit.wrap64 (1440 * k) = 1440 * k := wr64 (by unfold in64; omega))
    try clear h2
    go_enter Try.func18, Try.ntmps18
    go_wp2_with fail
    refine (HL.out _).mono ?_
    rintro e w1 ⟨rfl, hb1⟩
    have hbw := hb0.trans (hb1.mono hb0.size)
    go_wp2_with fail
    refine (Ra.rfits2_any _ _).mono ?_
    rintro e w' ⟨rfl, rfl⟩
    rw [hf]
    go_wp2
    go_ret2
    exact ⟨rfl, hbw⟩)
  all_goals
    obtain ⟨n1, n2, n3, n4, n5⟩ := loss_num hk hok
    rw [show lossVE _ c m l p = if m = 0 then (0, 0) else Ra.partVE c (l * (1000000 - p)) (m * 1000000) 1 by unfold lossVE; rw [if_pos hok]]
    obtain ⟨hf, h1, h2, h3, h4, h5, h6⟩ := hok
    have HP := Lib.hid (fun W => Ra.rpart_any c (l * (1000000 - p)) (m * 1000000) 1 n4.1 n4.2 n5 W)
    clear n4 n5
    first | (have h2' : ¬ 1440 * k < m := by omega) | (have h2' : ¬ (527040 : Int) < m := by omega)
    try (have hw : RowKit.wrap64 (1440 * k) = 1440 * k := wr64 (by unfold in64; omega))
    clear h2
    by_cases h0 : m = 0
    · subst h0
      rw [if_pos rfl]
      clear HP n1 n2 n3
      go_enter Try.func18, Try.ntmps18
      go_wp2_with fail
      refine (HL.out _).mono ?_
      rintro e w1 ⟨rfl, hb1⟩
      have hbw := hb0.trans (hb1.mono hb0.size)
      go_wp2_with fail
      refine (Ra.rfits2_any _ _).mono ?_
      rintro e w' ⟨rfl, rfl⟩
      rw [hf]
      go_wp2
      go_ret2
      exact ⟨rfl, hbw⟩
    · rw [if_neg h0]
      go_enter Try.func18, Try.ntmps18
      go_wp2_with fail
      refine (HL.out _).mono ?_
      rintro e w1 ⟨rfl, hb1⟩
      have hbw := hb0.trans (hb1.mono hb0.size)
      go_wp2_with fail
      refine (Ra.rfits2_any _ _).mono ?_
      rintro e w' ⟨rfl, rfl⟩
      rw [hf]
      go_wp2_with fail
      refine (HP.out _).mono ?_
      rintro e w2 ⟨rfl, hb2⟩
      go_wp2
      go_ret2
      exact ⟨rfl, hbw.trans (hb2.mono hbw.size)⟩

set_option maxHeartbeats 1000000 in
set_option maxRecDepth 100000 in
theorem rright_any (c : Int) (w : World) : Calls Try.prog 51 #[.int .i64 c] w fun e w' => e = .returned (.bool (Ra.rightB c)) ∧ w = w' := by
  by_cases h1 : -1000000000 ≤ c
  · by_cases h2 : c ≤ 1000000000
    · rw [Ra.rightB_yes h1 h2]
      go_enter Try.func51, Try.ntmps51
      go_wp2
      go_ret
      exact ⟨rfl, rfl⟩
    · rw [Ra.rightB_no (by omega)]
      go_enter Try.func51, Try.ntmps51
      go_wp2
      go_ret
      exact ⟨rfl, rfl⟩
  · rw [Ra.rightB_no (by omega)]
    go_enter Try.func51, Try.ntmps51
    go_wp2
    go_ret
    exact ⟨rfl, rfl⟩

set_option maxHeartbeats 1000000 in
set_option maxRecDepth 100000 in
theorem rOf2_any (c r mode : Int) (w : World) : Calls Try.prog 29 #[.int .i64 c, .int .i64 r, .int .i64 mode] w fun e w' => e = .returned (.tuple #[.int .i64 (Ra.ofVE c r mode).1, .int .i64 (Ra.ofVE c r mode).2]) ∧ Below w.heap.size w w' := by
  by_cases hf : Ra.fitsB c = true
  · by_cases hr : Ra.rightB r = true
    · obtain ⟨f1, f2⟩ := Ra.rightB_iff.1 hr
      rw [show Ra.ofVE c r mode = Ra.partVE c r 1000000 mode by simp [Ra.ofVE, hr]]
      have H := Lib.hid (fun W => Ra.rpart_any c r 1000000 mode (by omega) (by omega) (by omega) W)
      go_enter Try.func29, Try.ntmps29
      go_wp2_with fail
      refine (Ra.rfits2_any _ _).mono ?_
      rintro e w' ⟨rfl, rfl⟩
      rw [hf]
      go_wp2_with fail
      refine (rright_any _ _).mono ?_
      rintro e w' ⟨rfl, rfl⟩
      rw [hr]
      go_wp2_with fail
      refine (H.out _).mono ?_
      rintro e w1 ⟨rfl, hb⟩
      go_wp2
      go_ret2
      exact ⟨rfl, hb⟩
    · simp only [Bool.not_eq_true] at hr
      rw [show Ra.ofVE c r mode = (0, 2) by simp [Ra.ofVE, hr]]
      go_enter Try.func29, Try.ntmps29
      go_wp2_with fail
      refine (Ra.rfits2_any _ _).mono ?_
      rintro e w' ⟨rfl, rfl⟩
      rw [hf]
      go_wp2_with fail
      refine (rright_any _ _).mono ?_
      rintro e w' ⟨rfl, rfl⟩
      rw [hr]
      go_wp2
      go_ret2
      exact ⟨rfl, Below.refl _ _⟩
  · simp only [Bool.not_eq_true] at hf
    rw [show Ra.ofVE c r mode = (0, 2) by unfold Ra.ofVE Ra.partVE; simp [hf]]
    go_enter Try.func29, Try.ntmps29
    go_wp2_with fail
    refine (Ra.rfits2_any _ _).mono ?_
    rintro e w' ⟨rfl, rfl⟩
    rw [hf]
    go_wp2
    go_ret2
    exact ⟨rfl, Below.refl _ _⟩

end Go.Proofs.Ytamglmenljgbdaa
