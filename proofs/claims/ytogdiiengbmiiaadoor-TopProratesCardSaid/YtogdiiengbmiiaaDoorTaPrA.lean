/-
  What is proved: texts of other seats, joined for this one: what each theorem says. Conditions: as each says.
-/
import Derived.Test.YtogdiiengbmiiaaDoorTaRa
import Derived.Test.YtogdiiengbmiiaaDoorTaShC
import Derived.Test.YtogdiiengbmiiaaDoorTaSpE
namespace Go.Proofs.YtogdiiengbmiiaaDoor
open Go Go.RowKit Go.Proofs

theorem below_drewN {B : Nat} {a w : World} (h : Below B a w) (n : Nat) : Below B a (w.drewN n) := ⟨h.os, h.tape, h.output, h.size, h.block⟩
def in64 (n : Int) : Prop := -9223372036854775808 ≤ n ∧ n ≤ 9223372036854775807
theorem wr64 {n : Int} (h : in64 n) : RowKit.wrap64 n = n := by unfold in64 at h; unfold RowKit.wrap64; omega

/-- What of a yearly amount is a period's, and why it isn't told. -/
def perV (y i n : Int) : Int := Sh.betR y (if i < 1 then -1 else i - 1) (if i < 1 then 0 else i) n
def perE (y i n : Int) : Int := Sh.betE y (if i < 1 then -1 else i - 1) (if i < 1 then 0 else i) n
theorem in_neg {n m : Int} (h : n < 0) : Sh.inB n m = false := by simp [Sh.inB]; omega
theorem per_prog (y i n : Int) (hi : in64 i) : Sh.betR y (RowKit.wrap64 (i - 1)) i n = perV y i n ∧ Sh.betE y (RowKit.wrap64 (i - 1)) i n = perE y i n := by
  unfold in64 at hi
  by_cases h : i < 1
  · have e : Sh.betE y (RowKit.wrap64 (i - 1)) i n = perE y i n := by
      unfold perE Sh.betE
      rw [if_pos h, if_pos h]
      split
      · have h1 : ¬ (Sh.inB (-1) n = true ∧ Sh.inB 0 n = true) := fun h => by rw [in_neg (by omega)] at h; cases h.1
        have h2 : ¬ (Sh.inB (RowKit.wrap64 (i - 1)) n = true ∧ Sh.inB i n = true) := fun h' => by
          by_cases h0 : i < 0
          · rw [in_neg h0] at h'; cases h'.2
          · obtain rfl : i = 0 := by omega
            rw [show RowKit.wrap64 (0 - 1) = -1 by unfold RowKit.wrap64; omega, in_neg (by omega)] at h'; cases h'.1
        rw [if_neg h1, if_neg h2]
      · rfl
    refine ⟨?_, e⟩
    unfold perV Sh.betR
    rw [e]
    unfold perE
    have h0 : ¬ Sh.betE y (if i < 1 then -1 else i - 1) (if i < 1 then 0 else i) n = 0 := by
      rw [if_pos h, if_pos h]
      unfold Sh.betE
      split
      · rw [if_neg (fun h => by rw [in_neg (by omega)] at h; cases h.1)]; decide
      · assumption
    rw [if_neg h0, if_neg h0]
  · unfold perV perE
    rw [if_neg h, if_neg h, wr64 (by unfold in64; omega)]
    exact ⟨rfl, rfl⟩

set_option maxHeartbeats 1000000 in
set_option maxRecDepth 100000 in
theorem Period_any (a i n b c d y : Int) (w : World) (hi : in64 i) : Calls Tryd.prog 6 #[.agg #[.int .i64 a, .int .i64 i, .int .i64 n, .int .i64 b, .int .i64 c, .int .i64 d], .int .i64 y] w fun e w' => e = .returned (.tuple #[.int .i64 (perV y i n), .int .i64 (perE y i n)]) ∧ Below w.heap.size w w' := by
  obtain ⟨h1, h2⟩ := per_prog y i n hi
  have H := Lib.hid (fun W => Sh.Between_any y (RowKit.wrap64 (i - 1)) i n W)
  rw [h1, h2] at H
  clear h1 h2
  go_enter Tryd.func6, Tryd.ntmps6
  go_wp2_with fail
  refine (H.out _).mono ?_
  rintro e w1 ⟨rfl, m, rfl⟩
  go_wp2
  go_ret2
  exact ⟨rfl, below_drewN ((Below.refl _ _).alloc (Nat.le_refl _) _) m⟩

/-- An hour's part. -/
def hourVE (y m : Int) : Int × Int := if Ra.fitsB y = true then (if m = 0 then (0, 22) else if m < 0 ∨ 10080 < m then (0, 2) else Ra.partVE y 60 (52 * m) 1) else (0, 2)

open Go Go.RowKit Go.Proofs

/-- The days of a period, 366 at most. -/
def kk (a b : Int) : Int := if b ≤ a then 0 else if 366 < b - a then 366 else b - a
theorem kk_bd (a b : Int) : 0 ≤ kk a b ∧ kk a b ≤ 366 := by unfold kk; split; · omega
                                                            split <;> omega
theorem kk_min (a b : Int) : min (Sp.cut62 (Sp.lenS (a, b))) 366 = kk a b := by
  unfold kk Sp.cut62 Sp.lenS
  dsimp only
  repeat' split
  all_goals omega
def lossOk (k c m l p : Int) : Prop := Ra.fitsB c = true ∧ ¬ m < 0 ∧ ¬ k * 1440 < m ∧ ¬ l < 0 ∧ ¬ m < l ∧ ¬ p < 0 ∧ ¬ 1000000 < p
instance (k c m l p : Int) : Decidable (lossOk k c m l p) := by unfold lossOk; infer_instance
/-- What is lost, and why it isn't told. -/
def lossVE (k c m l p : Int) : Int × Int := if lossOk k c m l p then (if m = 0 then (0, 0) else Ra.partVE c (l * (1000000 - p)) (m * 1000000) 1) else (0, 2)
theorem loss_cases (k c m l p : Int) : Ra.fitsB c = false ∨ (Ra.fitsB c = true ∧ m < 0) ∨ (Ra.fitsB c = true ∧ ¬ m < 0 ∧ k * 1440 < m) ∨ (Ra.fitsB c = true ∧ ¬ m < 0 ∧ ¬ k * 1440 < m ∧ l < 0) ∨ (Ra.fitsB c = true ∧ ¬ m < 0 ∧ ¬ k * 1440 < m ∧ ¬ l < 0 ∧ m < l) ∨
    (Ra.fitsB c = true ∧ ¬ m < 0 ∧ ¬ k * 1440 < m ∧ ¬ l < 0 ∧ ¬ m < l ∧ p < 0) ∨ (Ra.fitsB c = true ∧ ¬ m < 0 ∧ ¬ k * 1440 < m ∧ ¬ l < 0 ∧ ¬ m < l ∧ ¬ p < 0 ∧ 1000000 < p) ∨ lossOk k c m l p := by
  unfold lossOk
  cases Ra.fitsB c
  · exact .inl rfl
  · simp; omega
theorem loss_num {k c m l p : Int} (hk : 0 ≤ k ∧ k ≤ 366) (h : lossOk k c m l p) : RowKit.wrap64 (1000000 - p) = 1000000 - p ∧ RowKit.wrap64 (l * (1000000 - p)) = l * (1000000 - p) ∧ RowKit.wrap64 (m * 1000000) = m * 1000000 ∧
    in64 (l * (1000000 - p)) ∧ m * 1000000 ≤ 9223372036854775807 := by
  obtain ⟨_, h1, h2, h3, h4, h5, h6⟩ := h
  have b1 : 0 ≤ l * (1000000 - p) := Int.mul_nonneg (by omega) (by omega)
  have b2 : l * (1000000 - p) ≤ 527040 * 1000000 := Int.mul_le_mul (by omega) (by omega) (by omega) (by omega)
  refine ⟨wr64 (by unfold in64; omega), wr64 (by unfold in64; omega), wr64 (by unfold in64; omega), by unfold in64; omega, by omega⟩

/-- The days of a span, 367 at most. -/
def d367 (a b : Int) : Int := if b ≤ a then 0 else if 367 < b - a then 367 else b - a
theorem kk_367 (a b : Int) : kk a b = if 366 < d367 a b then 366 else d367 a b := by
  unfold kk d367
  repeat' split
  all_goals omega
theorem d367_bd (a b : Int) : 0 ≤ d367 a b ∧ d367 a b ≤ 367 := by unfold d367; repeat' split
                                                                  all_goals omega

end Go.Proofs.YtogdiiengbmiiaaDoor
