/-
  What is proved: plain facts on a date's text of ten bytes: its digits, how texts rise, what is read of one, and which texts are such. Conditions: none.
-/
import Derived.Test.YtfmabjfibjnkoaaDoorCivMath
import GoSem.Op.String
namespace Go.Proofs.YtfmabjfibjnkoaaDoor
open Go

/-- A digit. -/
def dg (n : Nat) : UInt8 := UInt8.ofNat (48 + n % 10)
theorem dg_toNat (n : Nat) : (dg n).toNat = 48 + n % 10 := by
  unfold dg; rw [UInt8.toNat_ofNat']; omega
/-- The text of year, month and day. -/
def textN (y m d : Nat) : List UInt8 := [dg (y / 1000), dg (y / 100), dg (y / 10), dg y, 45, dg (m / 10), dg m, 45, dg (d / 10), dg d]
def textL (y m d : Int) : List UInt8 := textN y.toNat m.toNat d.toNat

theorem less_cons (a b : UInt8) (x y : List UInt8) : Op.bytesLess (a :: x) (b :: y) = true ↔ a.toNat < b.toNat ∨ (a.toNat = b.toNat ∧ Op.bytesLess x y = true) := by
  show (decide (a < b) || (a == b && Op.bytesLess x y)) = true ↔ _
  simp only [Bool.or_eq_true, decide_eq_true_eq, Bool.and_eq_true, beq_iff_eq, UInt8.lt_iff_toNat_lt, UInt8.toNat_inj]
theorem less_nil : Op.bytesLess [] [] = false := rfl

theorem lex4 (a b : Nat) (P : Prop) (ha : a < 10000) (hb : b < 10000) : (48 + a / 1000 % 10 < 48 + b / 1000 % 10 ∨ (48 + a / 1000 % 10 = 48 + b / 1000 % 10 ∧ (48 + a / 100 % 10 < 48 + b / 100 % 10 ∨ (48 + a / 100 % 10 = 48 + b / 100 % 10 ∧ (48 + a / 10 % 10 < 48 + b / 10 % 10 ∨ (48 + a / 10 % 10 = 48 + b / 10 % 10 ∧ (48 + a % 10 < 48 + b % 10 ∨ (48 + a % 10 = 48 + b % 10 ∧ P)))))))) ↔ (a < b ∨ (a = b ∧ P)) := by
  obtain ⟨a1, a2, a3, a4, e1, e2, e3, e4, f1, f2, f3, f4, f5⟩ : ∃ a1 a2 a3 a4, a / 1000 % 10 = a1 ∧ a / 100 % 10 = a2 ∧ a / 10 % 10 = a3 ∧ a % 10 = a4 ∧ a = 1000 * a1 + 100 * a2 + 10 * a3 + a4 ∧ a1 < 10 ∧ a2 < 10 ∧ a3 < 10 ∧ a4 < 10 := ⟨_, _, _, _, rfl, rfl, rfl, rfl, by omega, by omega, by omega, by omega, by omega⟩
  obtain ⟨b1, b2, b3, b4, g1, g2, g3, g4, h1, h2, h3, h4, h5⟩ : ∃ a1 a2 a3 a4, b / 1000 % 10 = a1 ∧ b / 100 % 10 = a2 ∧ b / 10 % 10 = a3 ∧ b % 10 = a4 ∧ b = 1000 * a1 + 100 * a2 + 10 * a3 + a4 ∧ a1 < 10 ∧ a2 < 10 ∧ a3 < 10 ∧ a4 < 10 := ⟨_, _, _, _, rfl, rfl, rfl, rfl, by omega, by omega, by omega, by omega, by omega⟩
  rw [e1, e2, e3, e4, g1, g2, g3, g4, f1, h1]
  clear e1 e2 e3 e4 g1 g2 g3 g4 f1 h1 ha hb
  by_cases hP : P <;> simp only [hP, and_true, and_false, or_false] <;> omega
theorem lex2 (a b : Nat) (P : Prop) (ha : a < 100) (hb : b < 100) : (48 + a / 10 % 10 < 48 + b / 10 % 10 ∨ (48 + a / 10 % 10 = 48 + b / 10 % 10 ∧ (48 + a % 10 < 48 + b % 10 ∨ (48 + a % 10 = 48 + b % 10 ∧ P)))) ↔ (a < b ∨ (a = b ∧ P)) := by
  by_cases hP : P <;> simp only [hP, and_true, and_false, or_false] <;> omega
theorem text_less (y m d y' m' d' : Nat) (h1 : y < 10000) (h2 : y' < 10000) (h3 : m < 100) (h4 : m' < 100) (h5 : d < 100) (h6 : d' < 100) :
    Op.bytesLess (textN y m d) (textN y' m' d') = true ↔ (y < y' ∨ (y = y' ∧ (m < m' ∨ (m = m' ∧ d < d')))) := by
  unfold textN
  simp only [less_cons, dg_toNat, less_nil]
  rw [lex4 _ _ _ h1 h2]
  have e : ∀ P : Prop, ((45 : UInt8).toNat < (45 : UInt8).toNat ∨ (True ∧ P)) ↔ P := fun P => by simp
  rw [e, lex2 _ _ _ h3 h4, e, lex2 _ _ _ h5 h6]
  simp
theorem text_inj (y m d y' m' d' : Nat) (h1 : y < 10000) (h2 : y' < 10000) (h3 : m < 100) (h4 : m' < 100) (h5 : d < 100) (h6 : d' < 100) (h : textN y m d = textN y' m' d') : y = y' ∧ m = m' ∧ d = d' := by
  unfold textN at h
  simp only [List.cons.injEq, and_true, true_and] at h
  have k : ∀ a b : Nat, dg a = dg b → a % 10 = b % 10 := fun a b e => by have := congrArg UInt8.toNat e; rw [dg_toNat, dg_toNat] at this; omega
  obtain ⟨a, b, c, e, f, g, p, q⟩ := h
  have a := k _ _ a
  have b := k _ _ b
  have c := k _ _ c
  have e := k _ _ e
  have f := k _ _ f
  have g := k _ _ g
  have p := k _ _ p
  have q := k _ _ q
  omega

theorem ok_small {y m d : Int} (h : okB y m d = true) : 1900 ≤ y.toNat ∧ y.toNat < 10000 ∧ m.toNat < 100 ∧ d.toNat < 100 := by
  obtain ⟨a, b, c, e, f, g⟩ := okB_iff.1 h
  have := dim_bd y m
  omega
theorem text_order {y m d y' m' d' : Int} (h : okB y m d = true) (h' : okB y' m' d' = true) : Op.bytesLess (textL y m d) (textL y' m' d') = decide (num y m d < num y' m' d') := by
  rw [Bool.eq_iff_iff, decide_eq_true_eq, num_lt h h']
  have a := ok_small h
  have b := ok_small h'
  obtain ⟨a1, a2, a3, a4, a5, a6⟩ := okB_iff.1 h
  obtain ⟨b1, b2, b3, b4, b5, b6⟩ := okB_iff.1 h'
  unfold textL
  rw [text_less _ _ _ _ _ _ a.2.1 b.2.1 a.2.2.1 b.2.2.1 a.2.2.2 b.2.2.2]
  unfold ahead
  omega
theorem text_same {y m d y' m' d' : Int} (h : okB y m d = true) (h' : okB y' m' d' = true) : (textL y m d == textL y' m' d') = decide (num y m d = num y' m' d') := by
  rw [Bool.eq_iff_iff, decide_eq_true_eq, beq_iff_eq]
  have a := ok_small h
  have b := ok_small h'
  obtain ⟨a1, a2, a3, a4, a5, a6⟩ := okB_iff.1 h
  obtain ⟨b1, b2, b3, b4, b5, b6⟩ := okB_iff.1 h'
  constructor
  · intro e
    have := text_inj _ _ _ _ _ _ a.2.1 b.2.1 a.2.2.1 b.2.2.1 a.2.2.2 b.2.2.2 e
    have e1 : y = y' := by omega
    have e2 : m = m' := by omega
    have e3 : d = d' := by omega
    rw [e1, e2, e3]
  · intro e
    obtain ⟨rfl, rfl, rfl⟩ := num_inj h h' e
    rfl

end Go.Proofs.YtfmabjfibjnkoaaDoor
