/-
  What is proved: the contracts of prorate.Loss, and of the document's own one, by plain functions on whole numbers. Conditions: every number is of 64 bits.
-/
import Derived.Test.YtamglmenljgbdaaPrA
import Derived.Test.YtamglmenljgbdaaSqH
namespace Go.Proofs.Ytamglmenljgbdaa
open Go Go.RowKit Go.Proofs

/-- The days of a period, 366 at most. -/
def kk (a b : Int) : Int := if b ≤ a then 0 else if 366 < b - a then 366 else b - a
theorem kk_bd (a b : Int) : 0 ≤ kk a b ∧ kk a b ≤ 366 := by unfold kk; split; · omega
                                                            split <;> omega
theorem kk_min (a b : Int) : min (Sp.cut62 (Sp.lenS (a, b))) 366 = kk a b := by
  unfold kk Sp.cut62 Sp.lenS
  dsimp only
  repeat' split
  all_goals omega
def lossOk (k c m l p : Int) : Prop := Ra.fitsB c = true ∧ ¬ m < 0 ∧ ¬ k * 1440 < m ∧ ¬ l < 0 ∧ ¬ m < l ∧ ¬ p < 0 ∧ ¬ 1000000 < p
instance (k c m l p : Int) : Decidable (lossOk k c m l p) := by unfold lossOk; infer_instance
/-- What is lost, and why it isn't told. -/
def lossVE (k c m l p : Int) : Int × Int := if lossOk k c m l p then (if m = 0 then (0, 0) else Ra.partVE c (l * (1000000 - p)) (m * 1000000) 1) else (0, 2)
theorem loss_cases (k c m l p : Int) : Ra.fitsB c = false ∨ (Ra.fitsB c = true ∧ m < 0) ∨ (Ra.fitsB c = true ∧ ¬ m < 0 ∧ k * 1440 < m) ∨ (Ra.fitsB c = true ∧ ¬ m < 0 ∧ ¬ k * 1440 < m ∧ l < 0) ∨ (Ra.fitsB c = true ∧ ¬ m < 0 ∧ ¬ k * 1440 < m ∧ ¬ l < 0 ∧ m < l) ∨
    (Ra.fitsB c = true ∧ ¬ m < 0 ∧ ¬ k * 1440 < m ∧ ¬ l < 0 ∧ ¬ m < l ∧ p < 0) ∨ (Ra.fitsB c = true ∧ ¬ m < 0 ∧ ¬ k * 1440 < m ∧ ¬ l < 0 ∧ ¬ m < l ∧ ¬ p < 0 ∧ 1000000 < p) ∨ lossOk k c m l p := by
  unfold lossOk
  cases Ra.fitsB c
  · exact .inl rfl
  · simp; omega
theorem loss_num {k c m l p : Int} (hk : 0 ≤ k ∧ k ≤ 366) (h : lossOk k c m l p) : RowKit.wrap64 (1000000 - p) = 1000000 - p ∧ RowKit.wrap64 (l * (1000000 - p)) = l * (1000000 - p) ∧ RowKit.wrap64 (m * 1000000) = m * 1000000 ∧
    in64 (l * (1000000 - p)) ∧ m * 1000000 ≤ 9223372036854775807 := by
  obtain ⟨_, h1, h2, h3, h4, h5, h6⟩ := h
  have b1 : 0 ≤ l * (1000000 - p) := Int.mul_nonneg (by omega) (by omega)
  have b2 : l * (1000000 - p) ≤ 527040 * 1000000 := Int.mul_le_mul (by omega) (by omega) (by omega) (by omega)
  refine ⟨wr64 (by unfold in64; omega), wr64 (by unfold in64; omega), wr64 (by unfold in64; omega), by unfold in64; omega, by omega⟩

set_option maxHeartbeats 4000000 in
set_option maxRecDepth 100000 in
theorem Loss_any (y i n a b d c m l p : Int) (w : World) (ha : in64 a) (hb : in64 b) : Calls Try.prog 17 #[.agg #[.int .i64 y, .int .i64 i, .int .i64 n, .int .i64 a, .int .i64 b, .int .i64 d], .int .i64 c, .int .i64 m, .int .i64 l, .int .i64 p] w
    fun e w' => e = .returned (.tuple #[.int .i64 (lossVE (kk a b) c m l p).1, .int .i64 (lossVE (kk a b) c m l p).2]) ∧ Below w.heap.size w w' := by
  have HL := Lib.hid (fun W => Sp.Length_any a b W ha hb)
  have hm := kk_min a b
  have hk := kk_bd a b
  generalize Sp.cut62 (Sp.lenS (a, b)) = K at HL hm
  generalize kk a b = k at hm hk ⊢
  have hw : RowKit.wrap64 (k * 1440) = k * 1440 := wr64 (by unfold in64; omega)
  have hb0 := (Below.refl w.heap.size w).alloc (Nat.le_refl _) (.cells #[.int .i64 y, .int .i64 i, .int .i64 n, .int .i64 a, .int .i64 b, .int .i64 d] 26)
  rcases loss_cases k c m l p with hf | ⟨hf, h1⟩ | ⟨hf, h1, h2⟩ | ⟨hf, h1, h2, h3⟩ | ⟨hf, h1, h2, h3, h4⟩ | ⟨hf, h1, h2, h3, h4, h5⟩ | ⟨hf, h1, h2, h3, h4, h5, h6⟩ | hok
  · rw [show lossVE k c m l p = (0, 2) by unfold lossVE; rw [if_neg (fun h => by rw [h.1] at hf; cases hf)]]
    go_enter Try.func17, Try.ntmps17
    go_wp2_with fail
    refine (HL.out _).mono ?_
    rintro e w1 ⟨rfl, hb1⟩
    have hbw := hb0.trans (hb1.mono hb0.size)
    go_wp2_with fail
    refine (Ra.fits_any _ _).mono ?_
    rintro e w' ⟨rfl, rfl⟩
    rw [hf]
    go_wp2
    go_ret2
    exact ⟨rfl, hbw⟩
  · rw [show lossVE k c m l p = (0, 2) by unfold lossVE; rw [if_neg (fun h => h.2.1 h1)]]
    go_enter Try.func17, Try.ntmps17
    go_wp2_with fail
    refine (HL.out _).mono ?_
    rintro e w1 ⟨rfl, hb1⟩
    have hbw := hb0.trans (hb1.mono hb0.size)
    go_wp2_with fail
    refine (Ra.fits_any _ _).mono ?_
    rintro e w' ⟨rfl, rfl⟩
    rw [hf]
    go_wp2
    go_ret2
    exact ⟨rfl, hbw⟩
  · rw [show lossVE k c m l p = (0, 2) by unfold lossVE; rw [if_neg (fun h => h.2.2.1 h2)]]
    go_enter Try.func17, Try.ntmps17
    go_wp2_with fail
    refine (HL.out _).mono ?_
    rintro e w1 ⟨rfl, hb1⟩
    have hbw := hb0.trans (hb1.mono hb0.size)
    go_wp2_with fail
    refine (Ra.fits_any _ _).mono ?_
    rintro e w' ⟨rfl, rfl⟩
    rw [hf]
    go_wp2
    go_ret2
    exact ⟨rfl, hbw⟩
  · rw [show lossVE k c m l p = (0, 2) by unfold lossVE; rw [if_neg (fun h => h.2.2.2.1 h3)]]
    go_enter Try.func17, Try.ntmps17
    go_wp2_with fail
    refine (HL.out _).mono ?_
    rintro e w1 ⟨rfl, hb1⟩
    have hbw := hb0.trans (hb1.mono hb0.size)
    go_wp2_with fail
    refine (Ra.fits_any _ _).mono ?_
    rintro e w' ⟨rfl, rfl⟩
    rw [hf]
    go_wp2
    go_ret2
    exact ⟨rfl, hbw⟩
  · rw [show lossVE k c m l p = (0, 2) by unfold lossVE; rw [if_neg (fun h => h.2.2.2.2.1 h4)]]
    go_enter Try.func17, Try.ntmps17
    go_wp2_with fail
    refine (HL.out _).mono ?_
    rintro e w1 ⟨rfl, hb1⟩
    have hbw := hb0.trans (hb1.mono hb0.size)
    go_wp2_with fail
    refine (Ra.fits_any _ _).mono ?_
    rintro e w' ⟨rfl, rfl⟩
    rw [hf]
    go_wp2
    go_ret2
    exact ⟨rfl, hbw⟩
  · rw [show lossVE k c m l p = (0, 2) by unfold lossVE; rw [if_neg (fun h => h.2.2.2.2.2.1 h5)]]
    go_enter Try.func17, Try.ntmps17
    go_wp2_with fail
    refine (HL.out _).mono ?_
    rintro e w1 ⟨rfl, hb1⟩
    have hbw := hb0.trans (hb1.mono hb0.size)
    go_wp2_with fail
    refine (Ra.fits_any _ _).mono ?_
    rintro e w' ⟨rfl, rfl⟩
    rw [hf]
    go_wp2
    go_ret2
    exact ⟨rfl, hbw⟩
  · rw [show lossVE k c m l p = (0, 2) by unfold lossVE; rw [if_neg (fun h => h.2.2.2.2.2.2 h6)]]
    go_enter Try.func17, Try.ntmps17
    go_wp2_with fail
    refine (HL.out _).mono ?_
    rintro e w1 ⟨rfl, hb1⟩
    have hbw := hb0.trans (hb1.mono hb0.size)
    go_wp2_with fail
    refine (Ra.fits_any _ _).mono ?_
    rintro e w' ⟨rfl, rfl⟩
    rw [hf]
    go_wp2
    go_ret2
    exact ⟨rfl, hbw⟩
  · obtain ⟨n1, n2, n3, n4, n5⟩ := loss_num hk hok
    rw [show lossVE k c m l p = if m = 0 then (0, 0) else Ra.partVE c (l * (1000000 - p)) (m * 1000000) 1 by unfold lossVE; rw [if_pos hok]]
    obtain ⟨hf, h1, h2, h3, h4, h5, h6⟩ := hok
    have HP := Lib.hid (fun W => Ra.part_any c (l * (1000000 - p)) (m * 1000000) 1 n4.1 n4.2 n5 W)
    clear n4 n5
    by_cases h0 : m = 0
    · subst h0
      rw [if_pos rfl]
      clear HP n1 n2 n3
      go_enter Try.func17, Try.ntmps17
      go_wp2_with fail
      refine (HL.out _).mono ?_
      rintro e w1 ⟨rfl, hb1⟩
      have hbw := hb0.trans (hb1.mono hb0.size)
      go_wp2_with fail
      refine (Ra.fits_any _ _).mono ?_
      rintro e w' ⟨rfl, rfl⟩
      rw [hf]
      go_wp2
      go_ret2
      exact ⟨rfl, hbw⟩
    · rw [if_neg h0]
      go_enter Try.func17, Try.ntmps17
      go_wp2_with fail
      refine (HL.out _).mono ?_
      rintro e w1 ⟨rfl, hb1⟩
      have hbw := hb0.trans (hb1.mono hb0.size)
      go_wp2_with fail
      refine (Ra.fits_any _ _).mono ?_
      rintro e w' ⟨rfl, rfl⟩
      rw [hf]
      go_wp2_with fail
      refine (HP.out _).mono ?_
      rintro e w2 ⟨rfl, hb2⟩
      go_wp2
      go_ret2
      exact ⟨rfl, hbw.trans (hb2.mono hbw.size)⟩

/-- The days of a span, 367 at most. -/
def d367 (a b : Int) : Int := if b ≤ a then 0 else if 367 < b - a then 367 else b - a
set_option maxHeartbeats 1000000 in
set_option maxRecDepth 100000 in
theorem rdays_any (a b : Int) (w : World) (ha : in64 a) (hb : in64 b) : Calls Try.prog 28 #[.agg #[.int .i64 a, .int .i64 b]] w fun e w' => e = .returned (.int .i64 (d367 a b)) ∧ Below w.heap.size w w' := by
  unfold d367
  have hb0 := (Below.refl w.heap.size w).alloc (Nat.le_refl _) (.cells #[.int .i64 a, .int .i64 b] 24)
  by_cases h : b ≤ a
  · rw [if_pos h]
    go_enter Try.func28, Try.ntmps28
    go_wp2
    go_ret
    exact ⟨rfl, hb0⟩
  · rw [if_neg h]
    have hu := Sp.u64_sub ha hb (by omega)
    by_cases h2 : 367 < b - a
    · rw [if_pos h2]
      go_enter Try.func28, Try.ntmps28
      go_wp2
      go_ret
      exact ⟨rfl, hb0⟩
    · rw [if_neg h2]
      have hw : RowKit.wrap64 (b - a) = b - a := wr64 (by unfold in64; omega)
      go_enter Try.func28, Try.ntmps28
      go_wp2
      go_ret
      exact ⟨rfl, hb0⟩
theorem kk_367 (a b : Int) : kk a b = if 366 < d367 a b then 366 else d367 a b := by
  unfold kk d367
  repeat' split
  all_goals omega
theorem d367_bd (a b : Int) : 0 ≤ d367 a b ∧ d367 a b ≤ 367 := by unfold d367; repeat' split
                                                                  all_goals omega

end Go.Proofs.Ytamglmenljgbdaa
