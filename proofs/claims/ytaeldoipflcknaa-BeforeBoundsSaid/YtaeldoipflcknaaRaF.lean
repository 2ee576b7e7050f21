/-
  What is proved: plain mathematics of parts: signs, the whole part, exact parts. Conditions: as each says.
-/
import Derived.Test.YtaeldoipflcknaaRaE
namespace Go.Proofs.Ytaeldoipflcknaa.Ra
open Go Go.RowKit Go.Proofs

theorem away_below {mode : Int} (h : mode ≠ 4) (b1 b2 odd : Bool) (r d : Nat) : awayB mode b1 odd r d = awayB mode b2 odd r d := by
  unfold awayB; rw [if_neg h, if_neg h]
theorem round_below {mode : Int} (h : mode ≠ 4) (A den : Nat) (b1 b2 : Bool) : roundQ A den mode b1 = roundQ A den mode b2 := by
  unfold roundQ; rw [away_below h b1 b2]
theorem away_zero (mode : Int) (b odd : Bool) (den : Nat) (hd : 0 < den) : awayB mode b odd 0 den = false := by
  unfold awayB
  repeat' split
  all_goals simp
  all_goals omega
theorem round_exact (k den : Nat) (mode : Int) (b : Bool) (hd : 0 < den) : roundQ (k * den) den mode b = k := by
  unfold roundQ
  rw [Nat.mul_mod_left, away_zero _ _ _ _ hd, Nat.mul_div_cancel _ hd]; simp
theorem below_comm (a b : Int) : belowB b a = belowB a b := by
  unfold belowB; cases decide (a < 0) <;> cases decide (b < 0) <;> rfl
theorem port_comm (a b : Int) (den : Nat) (mode : Int) (most : Nat) : portO b a den mode most = portO a b den mode most := by
  unfold portO; rw [below_comm, Nat.mul_comm]
theorem below_neg {n : Int} (h : n ≠ 0) (num : Int) : belowB (-n) num = !belowB n num := by
  unfold belowB
  by_cases h1 : n < 0
  · rw [decide_eq_true h1, decide_eq_false (show ¬ (-n < 0) by omega)]; cases decide (num < 0) <;> rfl
  · rw [decide_eq_false h1, decide_eq_true (show -n < 0 by omega)]; cases decide (num < 0) <;> rfl
theorem round_zero (den : Nat) (mode : Int) (b : Bool) (hd : 0 < den) : roundQ 0 den mode b = 0 := by
  have := round_exact 0 den mode b hd
  rwa [Nat.zero_mul] at this
theorem port_neg (n num : Int) (den : Nat) (mode : Int) (most : Nat) (hm : mode ≠ 4) (hd : 0 < den) : portO (-n) num den mode most = (portO n num den mode most).map (fun x => -x) := by
  by_cases h : n = 0
  · subst h
    unfold portO
    simp only [Int.neg_zero, Int.natAbs_zero, Nat.zero_mul, round_zero den mode _ hd]
    simp
  · unfold portO
    rw [Int.natAbs_neg, below_neg h, round_below hm _ _ (!belowB n num) (belowB n num)]
    split
    · simp only [Option.map_some]
      cases belowB n num <;> simp
    · rfl
/-- The whole part. -/
theorem port_one (n : Int) (den : Nat) (mode : Int) (most : Nat) (hd : 0 < den) (hn : n.natAbs ≤ most) : portO n (den : Int) den mode most = some n := by
  unfold portO
  rw [Int.natAbs_natCast, round_exact _ _ _ _ hd, if_pos hn]
  unfold belowB
  by_cases h : n < 0
  · have : ¬ ((den : Int) < 0) := by omega
    simp [h, this]; omega
  · have : ¬ ((den : Int) < 0) := by omega
    simp [h, this]; omega

end Go.Proofs.Ytaeldoipflcknaa.Ra
