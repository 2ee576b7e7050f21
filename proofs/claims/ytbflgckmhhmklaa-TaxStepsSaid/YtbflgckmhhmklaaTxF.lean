/-
  What is proved: the contracts of the document's Scaled, and of band.Scaled. Conditions: the number of the period, and of all, are right; the amount isn't far from 0.
-/
import Derived.Test.YtbflgckmhhmklaaTxE
namespace Go.Proofs.Ytbflgckmhhmklaa
open Go Go.RowKit Go.Proofs
set_option linter.unusedVariables false

theorem div_near (D Q N : Int) (hD : 0 < D) (h0 : 0 ≤ N) (h1 : N < 2 * D) : (D * Q + N) / D = if D ≤ N then Q + 1 else Q := by
  rw [Int.add_comm, Int.add_mul_ediv_left _ _ (by omega)]
  by_cases h : D ≤ N
  · rw [if_pos h]
    have e : N / D = 1 := by
      rw [show N = (N - D) + D * 1 by omega, Int.add_mul_ediv_left _ _ (by omega), Int.ediv_eq_zero_of_lt (by omega) (by omega)]; rfl
    rw [e]; omega
  · rw [if_neg h, Int.ediv_eq_zero_of_lt h0 (by omega)]; omega
/-- Rounded once, whole and rest apart. -/
theorem round_apart (T of : Int) (h0 : 0 ≤ T) (o0 : 1 ≤ of) :
    roundT T of = if of * 1000000 ≤ 2 * (T / 1000000 % of * 1000000 + T % 1000000) then T / 1000000 / of + 1 else T / 1000000 / of := by
  have e1 := Int.mul_ediv_add_emod T 1000000
  have e2 := Int.mul_ediv_add_emod (T / 1000000) of
  have l1 := Int.emod_lt_of_pos (T / 1000000) (show 0 < of by omega)
  have l0 := Int.emod_nonneg (T / 1000000) (show of ≠ 0 by omega)
  have l3 : T / 1000000 % of * 1000000 ≤ (of - 1) * 1000000 := Int.mul_le_mul_of_nonneg_right (by omega) (by omega)
  have e3 : T + of * 500000 = of * 1000000 * (T / 1000000 / of) + (T / 1000000 % of * 1000000 + T % 1000000 + of * 500000) := by
    have : of * 1000000 * (T / 1000000 / of) = 1000000 * (of * (T / 1000000 / of)) := by rw [Int.mul_comm of 1000000, Int.mul_assoc]
    rw [this]; omega
  unfold roundT
  rw [e3, div_near _ _ _ (by omega) (by omega) (by omega)]
  by_cases h : of * 1000000 ≤ 2 * (T / 1000000 % of * 1000000 + T % 1000000)
  · rw [if_pos h, if_pos (by omega)]
  · rw [if_neg h, if_neg (by omega)]

set_option maxHeartbeats 4000000 in
set_option maxRecDepth 100000 in
theorem rScaled_any (p : Option Addr) (n cp : Nat) (f : Nat → Bd) (x idx of : Int) (hn : n ≤ 64) (hr : Rises f n) (i0 : 1 ≤ idx) (i1 : idx ≤ of) (o1 : of ≤ 400) (x0 : -2305843009213693952 ≤ x) (x1 : x ≤ 2305843009213693952) (w : World) (hf : BdIn w p n f) :
    Calls Try.prog 23 #[.int .i64 x, .int .i64 idx, .int .i64 of, .slice p n cp] w fun e w' => e = .returned (.tuple #[.int .i64 (scaledV f n x idx of), .int .i64 (scaledE f n x idx of)]) ∧ Below w.heap.size w w' := by
  have HT := Lib.hid (Takes_any p n cp f x idx hn hr i0 (by omega) x0 x1 w hf)
  have hb := takes_bd hr (x := x) i0
  have hV : scaledV f n x idx of = if roundT (takesV f n x idx) of ≤ 1125899906842624 then roundT (takesV f n x idx) of else 0 := rfl
  have hE : scaledE f n x idx of = if roundT (takesV f n x idx) of ≤ 1125899906842624 then 0 else 9 := rfl
  rw [round_apart _ _ hb.1 (by omega)] at hV hE
  have c1 : 0 ≤ takesV f n x idx / 1000000 := by omega
  have c2 : takesV f n x idx / 1000000 ≤ 2305843009213693952 := by omega
  have c3 : 0 ≤ takesV f n x idx % 1000000 := by omega
  have c4 : takesV f n x idx % 1000000 < 1000000 := by omega
  generalize scaledV f n x idx of = V at hV ⊢
  generalize scaledE f n x idx of = E at hE ⊢
  generalize takesV f n x idx / 1000000 = W at *
  generalize takesV f n x idx % 1000000 = R at *
  have l1 := Int.emod_lt_of_pos W (show 0 < of by omega)
  have l0 := Int.emod_nonneg W (show of ≠ 0 by omega)
  have q0 : 0 ≤ W / of := Int.ediv_nonneg c1 (by omega)
  have q1 : W / of ≤ W := Int.ediv_le_self _ c1
  have t1 : W.tdiv of = W / of := Int.tdiv_eq_ediv_of_nonneg c1
  have t2 : W.tmod of = W % of := Int.tmod_eq_emod_of_nonneg c1
  generalize hQ : W / of = Q at *
  generalize hL : W % of = L at *
  have u1 : IntKind.i64.wrap (W.tdiv of) = Q := by rw [t1]; exact IntWalk.i64_in _ (by omega)
  have u2 : IntKind.i64.wrap (W.tmod of) = L := by rw [t2]; exact IntWalk.i64_in _ (by omega)
  have d0 : (of == 0) = false := by simp; omega
  have d1 : ¬ idx < 1 := by omega
  have d2 : ¬ of < idx := by omega
  have d3 : ¬ 400 < of := by omega
  have g1 : decide (idx < 1) = false := decide_eq_false d1
  have g2 : decide (of < idx) = false := decide_eq_false d2
  have g3 : decide (400 < of) = false := decide_eq_false d3
  replace hV := Lib.hid hV
  replace hE := Lib.hid hE
  clear hb t1 t2
  go_enter Try.func23, Try.ntmps23
  go_wp2_with fail
  refine (HT.out).mono ?_
  rintro e w1 ⟨rfl, rfl⟩
  go_upto_region 5 with fail
  go_quiet (fail)
  by_cases hh : of * 1000000 ≤ 2 * (L * 1000000 + R)
  · by_cases hq : Q + 1 ≤ 1125899906842624
    · obtain rfl : V = Q + 1 := by rw [hV.out, if_pos hh, if_pos hq]
      obtain rfl : E = 0 := by rw [hE.out, if_pos hh, if_pos hq]
      clear hV hE
      go_wp2
      go_ret2
      exact ⟨rfl, below_drewN (Below.refl _ _) _⟩
    · obtain rfl : V = 0 := by rw [hV.out, if_pos hh, if_neg hq]
      obtain rfl : E = 9 := by rw [hE.out, if_pos hh, if_neg hq]
      clear hV hE
      go_wp2
      go_ret2
      exact ⟨rfl, below_drewN (Below.refl _ _) _⟩
  · by_cases hq : Q ≤ 1125899906842624
    · have hV9 : V = Q := by rw [hV.out, if_neg hh, if_pos hq]
      obtain rfl : E = 0 := by rw [hE.out, if_neg hh, if_pos hq]
      subst hV9
      clear hV hE
      go_wp2
      go_ret2
      exact ⟨rfl, below_drewN (Below.refl _ _) _⟩
    · obtain rfl : V = 0 := by rw [hV.out, if_neg hh, if_neg hq]
      obtain rfl : E = 9 := by rw [hE.out, if_neg hh, if_neg hq]
      clear hV hE
      go_wp2
      go_ret2
      exact ⟨rfl, below_drewN (Below.refl _ _) _⟩

/-- What band.Scaled tells. -/
def scE (f : Nat → Bd) (n : Nat) (x idx of : Int) : Int := if chkT f n = 0 then scaledE f n x idx of else chkT f n
def scV (f : Nat → Bd) (n : Nat) (x idx of : Int) : Int := if chkT f n = 0 then scaledV f n x idx of else 0
set_option maxHeartbeats 4000000 in
set_option maxRecDepth 100000 in
theorem Scaled_any (p : Option Addr) (n cp : Nat) (f : Nat → Bd) (x idx of : Int) (hn : n ≤ 4611686018427387904) (i0 : 1 ≤ idx) (i1 : idx ≤ of) (o1 : of ≤ 400) (x0 : -2305843009213693952 ≤ x) (x1 : x ≤ 2305843009213693952) (w : World) (hf : BdIn w p n f) :
    Calls Try.prog 20 #[.int .i64 x, .int .i64 idx, .int .i64 of, .slice p n cp] w fun e w' => e = .returned (.tuple #[.int .i64 (scV f n x idx of), .int .i64 (scE f n x idx of)]) ∧ Below w.heap.size w w' := by
  have HC := Lib.hid (Check_any p n cp f w hn hf)
  have HT : chkT f n = 0 → ∀ W, Below w.heap.size w W → Calls Try.prog 26 #[.int .i64 x, .int .i64 idx, .int .i64 of, .slice p n cp] W fun e w' => e = .returned (.tuple #[.int .i64 (scaledV f n x idx of), .int .i64 (scaledE f n x idx of)]) ∧ Below W.heap.size W w' := fun h W hb => by
    obtain ⟨h64, hr⟩ := chkT_ok h
    exact taken_any p n cp f x idx of h64 hr i0 (by omega) (by omega) o1 x0 x1 W (hf.kp hb)
  unfold scV scE
  generalize scaledV f n x idx of = V at HT ⊢
  generalize scaledE f n x idx of = E at HT ⊢
  generalize chkT f n = C at HC HT ⊢
  have d1 : ¬ idx < 1 := by omega
  have d2 : ¬ of < idx := by omega
  have d3 : ¬ 400 < of := by omega
  have g1 : decide (idx < 1) = false := decide_eq_false d1
  have g2 : decide (of < idx) = false := decide_eq_false d2
  have g3 : decide (400 < of) = false := decide_eq_false d3
  by_cases hC : C = 0
  · subst hC
    rw [if_pos rfl, if_pos rfl]
    have HT' := Lib.hid (HT rfl)
    clear HT
    go_enter Try.func20, Try.ntmps20
    go_wp2_with fail
    refine (HC.out).mono ?_
    rintro e w1 ⟨rfl, hb1⟩
    go_wp2_with fail
    refine (HT'.out _ hb1).mono ?_
    rintro e w2 ⟨rfl, hb2⟩
    go_wp2
    go_ret2
    exact ⟨rfl, hb1.trans (hb2.mono hb1.size)⟩
  · rw [if_neg hC, if_neg hC]
    have dC : (C != 0) = true := by simpa using hC
    clear HT hC
    go_enter Try.func20, Try.ntmps20
    go_wp2_with fail
    refine (HC.out).mono ?_
    rintro e w1 ⟨rfl, hb1⟩
    go_wp2
    go_ret2
    exact ⟨rfl, hb1⟩

end Go.Proofs.Ytbflgckmhhmklaa
