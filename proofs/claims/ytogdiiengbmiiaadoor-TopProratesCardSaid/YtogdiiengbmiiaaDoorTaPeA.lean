/-
  What is proved: texts of other seats, joined for this one: what each theorem says. Conditions: as each says.
-/
import GoSem.Op.String
import Derived.Test.YtogdiiengbmiiaaDoorRows
import Derived.WalkKit
import Derived.WalkSpells
import Derived.WalkLawsBesides
import Derived.Lib.Hide
import Derived.Below
import Derived.Laws.OwnMore
import Derived.Deep.QuietTactic
import Derived.BigQuiet
import Derived.IntWalk
import Derived.Lib.MinMax
namespace Go.Proofs.YtogdiiengbmiiaaDoor.Pe

/-- A leap year. -/
def lpB (y : Int) : Bool := decide (y % 4 = 0) && (!decide (y % 100 = 0) || decide (y % 400 = 0))
def lp (y : Int) : Int := if lpB y = true then 1 else 0
theorem lp_bd (y : Int) : 0 ≤ lp y ∧ lp y ≤ 1 := by unfold lp; split <;> omega
theorem lp_yes {y : Int} (h : lpB y = true) : lp y = 1 := by simp [lp, h]
theorem lp_no {y : Int} (h : lpB y = false) : lp y = 0 := by simp [lp, h]
theorem lpB_iff (y : Int) : lpB y = true ↔ y % 4 = 0 ∧ (y % 100 ≠ 0 ∨ y % 400 = 0) := by simp [lpB]

/-- A month's length in a year that isn't a leap year. -/
def lenM (m : Int) : Int := if m = 2 then 28 else if m = 4 ∨ m = 6 ∨ m = 9 ∨ m = 11 then 30 else 31
/-- A month's length. -/
def dim (y m : Int) : Int := if m = 2 then 28 + lp y else lenM m
theorem dim_bd (y m : Int) : 28 ≤ dim y m ∧ dim y m ≤ 31 := by
  have := lp_bd y
  unfold dim lenM; repeat' split
  all_goals omega
/-- The days of a year ahead of a month. -/
def cum (y m : Int) : Int :=
  if m ≤ 1 then 0 else if m ≤ 2 then 31 else lp y + (if m ≤ 3 then 59 else if m ≤ 4 then 90 else if m ≤ 5 then 120 else if m ≤ 6 then 151 else if m ≤ 7 then 181 else if m ≤ 8 then 212 else if m ≤ 9 then 243 else if m ≤ 10 then 273 else if m ≤ 11 then 304 else if m ≤ 12 then 334 else 365)
theorem cum_one (y : Int) : cum y 1 = 0 := rfl
theorem cum_end (y : Int) : cum y 13 = 365 + lp y := by simp [cum]; omega
theorem cum_succ (y m : Int) (h1 : 1 ≤ m) (h2 : m ≤ 12) : cum y (m + 1) = cum y m + dim y m := by
  have h : m = 1 ∨ m = 2 ∨ m = 3 ∨ m = 4 ∨ m = 5 ∨ m = 6 ∨ m = 7 ∨ m = 8 ∨ m = 9 ∨ m = 10 ∨ m = 11 ∨ m = 12 := by omega
  rcases h with rfl | rfl | rfl | rfl | rfl | rfl | rfl | rfl | rfl | rfl | rfl | rfl <;> simp [cum, dim, lenM] <;> omega
theorem cum_bd (y m : Int) : 0 ≤ cum y m ∧ cum y m ≤ 366 := by
  have h := lp_bd y
  unfold cum
  by_cases h1 : m ≤ 1
  · rw [if_pos h1]; omega
  · by_cases h2 : m ≤ 2
    · rw [if_neg h1, if_pos h2]; omega
    · rw [if_neg h1, if_neg h2]
      generalize hx : (if m ≤ 3 then (59 : Int) else _) = x
      have : 59 ≤ x ∧ x ≤ 365 := by rw [← hx]; clear hx h; omega
      omega
theorem cum_up (y : Int) (a : Int) (h1 : 1 ≤ a) : ∀ k : Nat, a + k ≤ 13 → cum y a + 28 * k ≤ cum y (a + k)
  | 0, _ => by simp
  | k + 1, h => by
    have ih := cum_up y a h1 k (by omega)
    have hs := cum_succ y (a + k) (by omega) (by omega)
    have hd := dim_bd y (a + k)
    rw [show a + ((k + 1 : Nat) : Int) = a + k + 1 by omega]
    omega
theorem cum_mono (y a b : Int) (h1 : 1 ≤ a) (h2 : a < b) (h3 : b ≤ 13) : cum y a + dim y a ≤ cum y b := by
  have hs := cum_succ y a h1 (by omega)
  have := cum_up y (a + 1) (by omega) (b - (a + 1)).toNat (by omega)
  rw [show a + 1 + ((b - (a + 1)).toNat : Int) = b by omega] at this
  omega

/-- The first day of a year. -/
def jan (y : Int) : Int := -25567 + ((y - 1900) * 365 + ((y - 1) / 4 - (y - 1) / 100 + (y - 1) / 400 - 460))
theorem jan_first : jan 1900 = -25567 := by decide
theorem jan_last : jan 2200 = 84006 := by decide
theorem jan_succ (y : Int) : jan (y + 1) = jan y + 365 + lp y := by
  unfold jan
  cases h : lpB y with
  | true => rw [lp_yes h]; rw [lpB_iff] at h; omega
  | false =>
    rw [lp_no h]
    have : ¬ (y % 4 = 0 ∧ (y % 100 ≠ 0 ∨ y % 400 = 0)) := by rw [← lpB_iff, h]; simp
    omega
theorem jan_up (a : Int) : ∀ k : Nat, jan a + 365 * k ≤ jan (a + k)
  | 0 => by simp
  | k + 1 => by
    have ih := jan_up a k
    have hs := jan_succ (a + k)
    have hl := lp_bd (a + k)
    rw [show a + ((k + 1 : Nat) : Int) = a + k + 1 by omega]
    omega
theorem jan_mono (a b : Int) (h : a ≤ b) : jan a + 365 * (b - a) ≤ jan b := by
  have := jan_up a (b - a).toNat
  rw [show a + ((b - a).toNat : Int) = b by omega] at this
  omega
theorem jan_up2 (a : Int) : ∀ k : Nat, jan (a + k) ≤ jan a + 366 * k
  | 0 => by simp
  | k + 1 => by
    have ih := jan_up2 a k
    have hs := jan_succ (a + k)
    have hl := lp_bd (a + k)
    rw [show a + ((k + 1 : Nat) : Int) = a + k + 1 by omega]
    omega
theorem jan_most (a b : Int) (h : a ≤ b) : jan b ≤ jan a + 366 * (b - a) := by
  have := jan_up2 a (b - a).toNat
  rw [show a + ((b - a).toNat : Int) = b by omega] at this
  omega
theorem jan_bd (y : Int) (h1 : 1900 ≤ y) (h2 : y ≤ 2200) : -25567 ≤ jan y ∧ jan y ≤ 84006 := by
  have a := jan_mono 1900 y h1
  have b := jan_mono y 2200 h2
  rw [jan_first] at a; rw [jan_last] at b
  omega

/-- How many days a month of the calendar has; 0 of others. -/
def mdV (y m : Int) : Int := if 1900 ≤ y ∧ y ≤ 2199 ∧ 1 ≤ m ∧ m ≤ 12 then dim y m else 0
theorem mdV_in {y m : Int} (a : 1900 ≤ y) (b : y ≤ 2199) (c : 1 ≤ m) (d : m ≤ 12) : mdV y m = dim y m := by simp [mdV, a, b, c, d]
theorem mdV_out {y m : Int} (h : y < 1900 ∨ 2199 < y ∨ m < 1 ∨ 12 < m) : mdV y m = 0 := by unfold mdV; rw [if_neg (by omega)]
theorem mdV_bd (y m : Int) : 0 ≤ mdV y m ∧ mdV y m ≤ 31 := by have := dim_bd y m; unfold mdV; split <;> omega

/-- A date is right. -/
def okB (y m d : Int) : Bool := decide (1 ≤ d) && decide (d ≤ mdV y m)
theorem okB_iff {y m d : Int} : okB y m d = true ↔ 1900 ≤ y ∧ y ≤ 2199 ∧ 1 ≤ m ∧ m ≤ 12 ∧ 1 ≤ d ∧ d ≤ dim y m := by
  simp only [okB, Bool.and_eq_true, decide_eq_true_eq]
  constructor
  · rintro ⟨h1, h2⟩
    unfold mdV at h2
    split at h2
    · rename_i h; exact ⟨h.1, h.2.1, h.2.2.1, h.2.2.2, h1, h2⟩
    · omega
  · rintro ⟨a, b, c, d, e, f⟩
    exact ⟨e, by rw [mdV_in a b c d]; exact f⟩
/-- A date's number. -/
def num (y m d : Int) : Int := jan y + cum y m + d - 1

theorem num_in {y m d : Int} (h : okB y m d = true) : jan y ≤ num y m d ∧ num y m d < jan (y + 1) ∧ cum y m ≤ num y m d - jan y ∧ num y m d - jan y < cum y (m + 1) := by
  obtain ⟨a, b, c, d, e, f⟩ := okB_iff.1 h
  have h1 := cum_bd y m
  have h2 := cum_succ y m c d
  have h3 := jan_succ y
  have h4 := cum_end y
  have h5 : cum y (m + 1) ≤ cum y 13 := by
    by_cases e : m = 12
    · subst e; exact Int.le_refl _
    · have := cum_mono y (m + 1) 13 (by omega) (by omega) (by omega); have := dim_bd y (m + 1); omega
  unfold num
  omega
theorem num_bd {y m d : Int} (h : okB y m d = true) : -25567 ≤ num y m d ∧ num y m d ≤ 84005 := by
  obtain ⟨a, b, -⟩ := okB_iff.1 h
  have h1 := num_in h
  have h2 := jan_bd y a (by omega)
  have h3 := jan_bd (y + 1) (by omega) (by omega)
  omega
/-- Which of two dates is ahead. -/
def ahead (y m d y' m' d' : Int) : Prop := y < y' ∨ (y = y' ∧ (m < m' ∨ (m = m' ∧ d < d')))
theorem num_lt_of {y m d y' m' d' : Int} (h : okB y m d = true) (h' : okB y' m' d' = true) (hl : ahead y m d y' m' d') : num y m d < num y' m' d' := by
  have a := num_in h
  have b := num_in h'
  obtain ⟨-, -, c1, c2, -, -⟩ := okB_iff.1 h
  obtain ⟨-, -, d1, d2, -, -⟩ := okB_iff.1 h'
  rcases hl with hy | ⟨rfl, hm | ⟨rfl, hd⟩⟩
  · have := jan_mono (y + 1) y' (by omega); omega
  · have h1 := cum_mono y m m' c1 hm (by omega)
    have h2 := cum_succ y m c1 c2
    omega
  · unfold num; omega
theorem ahead_or (y m d y' m' d' : Int) : ahead y m d y' m' d' ∨ (y = y' ∧ m = m' ∧ d = d') ∨ ahead y' m' d' y m d := by
  unfold ahead; omega
theorem num_lt {y m d y' m' d' : Int} (h : okB y m d = true) (h' : okB y' m' d' = true) : num y m d < num y' m' d' ↔ ahead y m d y' m' d' := by
  refine ⟨fun hl => ?_, num_lt_of h h'⟩
  rcases ahead_or y m d y' m' d' with a | ⟨rfl, rfl, rfl⟩ | a
  · exact a
  · omega
  · have := num_lt_of h' h a; omega
theorem num_inj {y m d y' m' d' : Int} (h : okB y m d = true) (h' : okB y' m' d' = true) (he : num y m d = num y' m' d') : y = y' ∧ m = m' ∧ d = d' := by
  rcases ahead_or y m d y' m' d' with a | a | a
  · have := num_lt_of h h' a; omega
  · exact a
  · have := num_lt_of h' h a; omega

theorem year_at (n : Int) (h0 : -25567 ≤ n) : ∀ k : Nat, n < jan (1900 + k) → ∃ y : Int, 1900 ≤ y ∧ y < 1900 + (k : Int) ∧ jan y ≤ n ∧ n < jan (y + 1)
  | 0, h => by
    have e : (1900 : Int) + ((0 : Nat) : Int) = 1900 := by omega
    rw [e, jan_first] at h; omega
  | k + 1, h => by
    by_cases hk : n < jan (1900 + k)
    · obtain ⟨y, a, b, c⟩ := year_at n h0 k hk
      exact ⟨y, a, by omega, c⟩
    · exact ⟨1900 + k, by omega, by omega, by omega, by rw [show (1900 : Int) + k + 1 = 1900 + ((k + 1 : Nat) : Int) by omega]; exact h⟩
theorem month_at (y r : Int) (h0 : 0 ≤ r) : ∀ k : Nat, k ≤ 12 → r < cum y (1 + k) → ∃ m : Int, 1 ≤ m ∧ m < 1 + (k : Int) ∧ cum y m ≤ r ∧ r < cum y (m + 1)
  | 0, _, h => by
    have e : (1 : Int) + ((0 : Nat) : Int) = 1 := by omega
    rw [e, cum_one] at h; omega
  | k + 1, hk2, h => by
    by_cases hk : r < cum y (1 + k)
    · obtain ⟨m, a, b, c⟩ := month_at y r h0 k (by omega) hk
      exact ⟨m, a, by omega, c⟩
    · exact ⟨1 + k, by omega, by omega, by omega, by rw [show (1 : Int) + k + 1 = 1 + ((k + 1 : Nat) : Int) by omega]; exact h⟩
/-- Each day of the calendar has a date. -/
theorem date_of (n : Int) (h0 : -25567 ≤ n) (h1 : n ≤ 84005) : ∃ y m d, okB y m d = true ∧ num y m d = n := by
  obtain ⟨y, a, b, c, d⟩ := year_at n h0 300 (by show n < jan 2200; rw [jan_last]; omega)
  have hs := jan_succ y
  have he := cum_end y
  obtain ⟨m, p, q, r, s⟩ := month_at y (n - jan y) (by omega) 12 (by omega) (by show _ < cum y 13; omega)
  have hc := cum_succ y m p (by omega)
  refine ⟨y, m, n - jan y - cum y m + 1, okB_iff.2 ⟨a, by omega, p, by omega, by omega, by omega⟩, ?_⟩
  unfold num; omega


open Go

/-- A digit. -/
def dg (n : Nat) : UInt8 := UInt8.ofNat (48 + n % 10)
theorem dg_toNat (n : Nat) : (dg n).toNat = 48 + n % 10 := by
  unfold dg; rw [UInt8.toNat_ofNat']; omega
/-- The text of year, month and day. -/
def textN (y m d : Nat) : List UInt8 := [dg (y / 1000), dg (y / 100), dg (y / 10), dg y, 45, dg (m / 10), dg m, 45, dg (d / 10), dg d]
def textL (y m d : Int) : List UInt8 := textN y.toNat m.toNat d.toNat

theorem less_cons (a b : UInt8) (x y : List UInt8) : Op.bytesLess (a :: x) (b :: y) = true ↔ a.toNat < b.toNat ∨ (a.toNat = b.toNat ∧ Op.bytesLess x y = true) := by
  show (decide (a < b) || (a == b && Op.bytesLess x y)) = true ↔ _
  simp only [Bool.or_eq_true, decide_eq_true_eq, Bool.and_eq_true, beq_iff_eq, UInt8.lt_iff_toNat_lt, UInt8.toNat_inj]
theorem less_nil : Op.bytesLess [] [] = false := rfl

theorem lex4 (a b : Nat) (P : Prop) (ha : a < 10000) (hb : b < 10000) : (48 + a / 1000 % 10 < 48 + b / 1000 % 10 ∨ (48 + a / 1000 % 10 = 48 + b / 1000 % 10 ∧ (48 + a / 100 % 10 < 48 + b / 100 % 10 ∨ (48 + a / 100 % 10 = 48 + b / 100 % 10 ∧ (48 + a / 10 % 10 < 48 + b / 10 % 10 ∨ (48 + a / 10 % 10 = 48 + b / 10 % 10 ∧ (48 + a % 10 < 48 + b % 10 ∨ (48 + a % 10 = 48 + b % 10 ∧ P)))))))) ↔ (a < b ∨ (a = b ∧ P)) := by
  obtain ⟨a1, a2, a3, a4, e1, e2, e3, e4, f1, f2, f3, f4, f5⟩ : ∃ a1 a2 a3 a4, a / 1000 % 10 = a1 ∧ a / 100 % 10 = a2 ∧ a / 10 % 10 = a3 ∧ a % 10 = a4 ∧ a = 1000 * a1 + 100 * a2 + 10 * a3 + a4 ∧ a1 < 10 ∧ a2 < 10 ∧ a3 < 10 ∧ a4 < 10 := ⟨_, _, _, _, rfl, rfl, rfl, rfl, by omega, by omega, by omega, by omega, by omega⟩
  obtain ⟨b1, b2, b3, b4, g1, g2, g3, g4, h1, h2, h3, h4, h5⟩ : ∃ a1 a2 a3 a4, b / 1000 % 10 = a1 ∧ b / 100 % 10 = a2 ∧ b / 10 % 10 = a3 ∧ b % 10 = a4 ∧ b = 1000 * a1 + 100 * a2 + 10 * a3 + a4 ∧ a1 < 10 ∧ a2 < 10 ∧ a3 < 10 ∧ a4 < 10 := ⟨_, _, _, _, rfl, rfl, rfl, rfl, by omega, by omega, by omega, by omega, by omega⟩
  rw [e1, e2, e3, e4, g1, g2, g3, g4, f1, h1]
  clear e1 e2 e3 e4 g1 g2 g3 g4 f1 h1 ha hb
  by_cases hP : P <;> simp only [hP, and_true, and_false, or_false] <;> omega
theorem lex2 (a b : Nat) (P : Prop) (ha : a < 100) (hb : b < 100) : (48 + a / 10 % 10 < 48 + b / 10 % 10 ∨ (48 + a / 10 % 10 = 48 + b / 10 % 10 ∧ (48 + a % 10 < 48 + b % 10 ∨ (48 + a % 10 = 48 + b % 10 ∧ P)))) ↔ (a < b ∨ (a = b ∧ P)) := by
  by_cases hP : P <;> simp only [hP, and_true, and_false, or_false] <;> omega
theorem text_less (y m d y' m' d' : Nat) (h1 : y < 10000) (h2 : y' < 10000) (h3 : m < 100) (h4 : m' < 100) (h5 : d < 100) (h6 : d' < 100) :
    Op.bytesLess (textN y m d) (textN y' m' d') = true ↔ (y < y' ∨ (y = y' ∧ (m < m' ∨ (m = m' ∧ d < d')))) := by
  unfold textN
  simp only [less_cons, dg_toNat, less_nil]
  rw [lex4 _ _ _ h1 h2]
  have e : ∀ P : Prop, ((45 : UInt8).toNat < (45 : UInt8).toNat ∨ (True ∧ P)) ↔ P := fun P => by simp
  rw [e, lex2 _ _ _ h3 h4, e, lex2 _ _ _ h5 h6]
  simp
theorem text_inj (y m d y' m' d' : Nat) (h1 : y < 10000) (h2 : y' < 10000) (h3 : m < 100) (h4 : m' < 100) (h5 : d < 100) (h6 : d' < 100) (h : textN y m d = textN y' m' d') : y = y' ∧ m = m' ∧ d = d' := by
  unfold textN at h
  simp only [List.cons.injEq, and_true, true_and] at h
  have k : ∀ a b : Nat, dg a = dg b → a % 10 = b % 10 := fun a b e => by have := congrArg UInt8.toNat e; rw [dg_toNat, dg_toNat] at this; omega
  obtain ⟨a, b, c, e, f, g, p, q⟩ := h
  have a := k _ _ a
  have b := k _ _ b
  have c := k _ _ c
  have e := k _ _ e
  have f := k _ _ f
  have g := k _ _ g
  have p := k _ _ p
  have q := k _ _ q
  omega

theorem ok_small {y m d : Int} (h : okB y m d = true) : 1900 ≤ y.toNat ∧ y.toNat < 10000 ∧ m.toNat < 100 ∧ d.toNat < 100 := by
  obtain ⟨a, b, c, e, f, g⟩ := okB_iff.1 h
  have := dim_bd y m
  omega
theorem text_order {y m d y' m' d' : Int} (h : okB y m d = true) (h' : okB y' m' d' = true) : Op.bytesLess (textL y m d) (textL y' m' d') = decide (num y m d < num y' m' d') := by
  rw [Bool.eq_iff_iff, decide_eq_true_eq, num_lt h h']
  have a := ok_small h
  have b := ok_small h'
  obtain ⟨a1, a2, a3, a4, a5, a6⟩ := okB_iff.1 h
  obtain ⟨b1, b2, b3, b4, b5, b6⟩ := okB_iff.1 h'
  unfold textL
  rw [text_less _ _ _ _ _ _ a.2.1 b.2.1 a.2.2.1 b.2.2.1 a.2.2.2 b.2.2.2]
  unfold ahead
  omega
theorem text_same {y m d y' m' d' : Int} (h : okB y m d = true) (h' : okB y' m' d' = true) : (textL y m d == textL y' m' d') = decide (num y m d = num y' m' d') := by
  rw [Bool.eq_iff_iff, decide_eq_true_eq, beq_iff_eq]
  have a := ok_small h
  have b := ok_small h'
  obtain ⟨a1, a2, a3, a4, a5, a6⟩ := okB_iff.1 h
  obtain ⟨b1, b2, b3, b4, b5, b6⟩ := okB_iff.1 h'
  constructor
  · intro e
    have := text_inj _ _ _ _ _ _ a.2.1 b.2.1 a.2.2.1 b.2.2.1 a.2.2.2 b.2.2.2 e
    have e1 : y = y' := by omega
    have e2 : m = m' := by omega
    have e3 : d = d' := by omega
    rw [e1, e2, e3]
  · intro e
    obtain ⟨rfl, rfl, rfl⟩ := num_inj h h' e
    rfl


open Go Go.RowKit Go.Proofs

/-- The table of months' lengths lies as its text says. -/
def Len (w : World) : Prop := ∀ k : Nat, k < 12 → w.cell? ⟨1, k, none⟩ = some (.int .i64 (lenM ((k : Int) + 1)))
theorem Len.below {B : Nat} {w w' : World} (h : Len w) (hb : Below B w w') (hB : w.heap.size ≤ B) : Len w' := fun k hk => by
  have h1 := h k hk
  have h2 := World.block_lt_of_cell? w _ h1
  rw [hb.cell (p := ⟨1, k, none⟩) (by show 1 < B; have : 1 < w.heap.size := h2; omega)]
  exact h1
theorem Len.drewN {w : World} (h : Len w) (n : Nat) : Len (w.drewN n) := h
theorem Len.alloc {w : World} (h : Len w) (o : Obj) : Len (w.alloc o) := h.below ((Below.refl w.heap.size w).alloc (Nat.le_refl _) o) (Nat.le_refl _)

set_option maxHeartbeats 1000000 in
theorem leap_any (y : Int) (h0 : 0 ≤ y) (w : World) : Calls Tryd.prog 55 #[.int .i64 y] w fun e w' => e = .returned (.bool (lpB y)) ∧ w = w' := by
  by_cases h4 : y % 4 = 0
  · have d4 : (y % 4 == 0) = true := by simp [h4]
    by_cases h1 : y % 100 = 0
    · have d1 : (y % 100 != 0) = false := by simp [h1]
      by_cases h2 : y % 400 = 0
      · rw [show lpB y = true by simp [lpB, h4, h2]]
        have d2 : (y % 400 == 0) = true := by simp [h2]
        clear h4 h1 h2
        go_enter Tryd.func55, Tryd.ntmps55
        go_wp2
        go_ret
        exact ⟨rfl, rfl⟩
      · rw [show lpB y = false by simp [lpB, h1, h2]]
        have d2 : (y % 400 == 0) = false := by simp [h2]
        clear h4 h1 h2
        go_enter Tryd.func55, Tryd.ntmps55
        go_wp2
        go_ret
        exact ⟨rfl, rfl⟩
    · rw [show lpB y = true by simp [lpB, h4, h1]]
      have d1 : (y % 100 != 0) = true := by simp [h1]
      clear h4 h1
      go_enter Tryd.func55, Tryd.ntmps55
      go_wp2
      go_ret
      exact ⟨rfl, rfl⟩
  · rw [show lpB y = false by simp [lpB, h4]]
    have d4 : (y % 4 == 0) = false := by simp [h4]
    clear h4
    go_enter Tryd.func55, Tryd.ntmps55
    go_wp2
    go_ret
    exact ⟨rfl, rfl⟩

theorem md_two {y : Int} (a : 1900 ≤ y) (b : y ≤ 2199) : mdV y 2 = if lpB y = true then 29 else 28 := by
  rw [mdV_in a b (by omega) (by omega)]
  unfold dim lp
  simp only [if_true]
  split <;> rfl
theorem md_other {y m : Int} (a : 1900 ≤ y) (b : y ≤ 2199) (c : 1 ≤ m) (d : m ≤ 12) (e : m ≠ 2) : mdV y m = lenM m := by
  rw [mdV_in a b c d]
  unfold dim
  rw [if_neg e]

set_option maxHeartbeats 1000000 in
theorem md_any (y m : Int) (w : World) (hL : Len w) : Calls Tryd.prog 38 #[.int .i64 y, .int .i64 m] w fun e w' => e = .returned (.int .i64 (mdV y m)) ∧ w = w' := by
  by_cases h1 : y < 1900
  · rw [mdV_out (by omega)]
    have d1 : decide (y < 1900) = true := decide_eq_true h1
    go_enter Tryd.func38, Tryd.ntmps38
    go_wp2
    go_ret
    exact ⟨rfl, rfl⟩
  have d1 : decide (y < 1900) = false := decide_eq_false h1
  by_cases h2 : 2199 < y
  · rw [mdV_out (by omega)]
    have d2 : decide (2199 < y) = true := decide_eq_true h2
    go_enter Tryd.func38, Tryd.ntmps38
    go_wp2
    go_ret
    exact ⟨rfl, rfl⟩
  have d2 : decide (2199 < y) = false := decide_eq_false h2
  by_cases h3 : m < 1
  · rw [mdV_out (by omega)]
    have d3 : decide (m < 1) = true := decide_eq_true h3
    go_enter Tryd.func38, Tryd.ntmps38
    go_wp2
    go_ret
    exact ⟨rfl, rfl⟩
  have d3 : decide (m < 1) = false := decide_eq_false h3
  by_cases h4 : 12 < m
  · rw [mdV_out (by omega)]
    have d4 : decide (12 < m) = true := decide_eq_true h4
    go_enter Tryd.func38, Tryd.ntmps38
    go_wp2
    go_ret
    exact ⟨rfl, rfl⟩
  have d4 : decide (12 < m) = false := decide_eq_false h4
  have hlen : 28 ≤ lenM m ∧ lenM m ≤ 31 := by unfold lenM; repeat' split
                                              all_goals omega
  have hcell : w.cell? ⟨1, m.toNat - 1, none⟩ = some (.int .i64 (lenM m)) := by
    have := hL (m.toNat - 1) (by omega)
    rwa [show (((m.toNat - 1 : Nat) : Int) + 1) = m by omega] at this
  have hm1 : m - 1 < 12 := by omega
  have hm0 : 0 ≤ m - 1 := by omega
  by_cases h5 : m = 2
  · subst h5
    rw [md_two (by omega) (by omega)]
    rw [show lenM 2 = 28 from rfl] at hcell
    have hcell1 : w.cell? ⟨1, 1, none⟩ = some (.int .i64 28) := hcell
    clear hcell hlen
    cases hb : lpB y with
    | true =>
      have hl := leap_any y (by omega)
      rw [hb] at hl
      have HL := Lib.hid hl
      clear hl hb
      simp only [if_true]
      go_enter Tryd.func38, Tryd.ntmps38
      go_wp2_with (go_at_call 55; refine (HL.out _).mono ?_; rintro e w' ⟨rfl, rfl⟩)
      go_ret
      exact ⟨rfl, rfl⟩
    | false =>
      have hl := leap_any y (by omega)
      rw [hb] at hl
      have HL := Lib.hid hl
      clear hl hb
      simp only [Bool.false_eq_true, if_false]
      go_enter Tryd.func38, Tryd.ntmps38
      go_wp2_with (go_at_call 55; refine (HL.out _).mono ?_; rintro e w' ⟨rfl, rfl⟩)
      go_ret
      exact ⟨rfl, rfl⟩
  · rw [md_other (by omega) (by omega) (by omega) (by omega) h5]
    have d5 : (m == 2) = false := by simp [h5]
    have hm2 : 1 ≤ m := by omega
    have hm3 : m ≤ 12 := by omega
    generalize lenM m = L at hcell hlen ⊢
    go_enter Tryd.func38, Tryd.ntmps38
    go_wp2
    go_ret
    exact ⟨rfl, rfl⟩

theorem jan_any (y : Int) (h0 : 1900 ≤ y) (h1 : y ≤ 2200) (w : World) : Calls Tryd.prog 54 #[.int .i64 y] w fun e w' => e = .returned (.int .i64 (jan y)) ∧ w = w' := by
  unfold jan
  go_enter Tryd.func54, Tryd.ntmps54
  go_wp2
  go_ret
  exact ⟨rfl, rfl⟩

/-- A day is in the calendar. -/
def inB (n : Int) : Bool := decide (-25567 ≤ n) && decide (n ≤ 84005)
theorem inB_yes {n : Int} (h1 : -25567 ≤ n) (h2 : n ≤ 84005) : inB n = true := by simp [inB, h1, h2]
theorem inB_no {n : Int} (h : n < -25567 ∨ 84005 < n) : inB n = false := by
  simp only [inB, Bool.and_eq_false_iff, decide_eq_false_iff_not]; omega
theorem inB_iff {n : Int} : inB n = true ↔ -25567 ≤ n ∧ n ≤ 84005 := by simp [inB]
theorem in_any (n : Int) (w : World) : Calls Tryd.prog 53 #[.int .i64 n] w fun e w' => e = .returned (.bool (inB n)) ∧ w = w' := by
  by_cases h1 : -25567 ≤ n
  · by_cases h2 : n ≤ 84005
    · rw [inB_yes h1 h2]
      go_enter Tryd.func53, Tryd.ntmps53
      go_wp2
      go_ret
      exact ⟨rfl, rfl⟩
    · rw [inB_no (by omega)]
      go_enter Tryd.func53, Tryd.ntmps53
      go_wp2
      go_ret
      exact ⟨rfl, rfl⟩
  · rw [inB_no (by omega)]
    go_enter Tryd.func53, Tryd.ntmps53
    go_wp2
    go_ret
    exact ⟨rfl, rfl⟩


open Go Go.RowKit Go.Proofs

theorem below_drewN {B : Nat} {a w : World} (h : Below B a w) (n : Nat) : Below B a (w.drewN n) := ⟨h.os, h.tape, h.output, h.size, h.block⟩
theorem ret_pair {a b : Int} {x : Value} (h : a = b) : Ending.returned (.tuple #[.int .i64 a, x]) = .returned (.tuple #[.int .i64 b, x]) := by rw [h]
theorem ret_int {k : IntKind} {a b : Int} (h : a = b) : Ending.returned (.int k a) = .returned (.int k b) := by rw [h]
theorem ret_bool {a b : Bool} (h : a = b) : Ending.returned (.bool a) = .returned (.bool b) := by rw [h]
theorem md_q (y m : Int) (w : World) (hL : Len w) : Calls Tryd.prog 38 #[.int .i64 y, .int .i64 m] w fun e w' => e = .returned (.int .i64 (mdV y m)) ∧ w' = w :=
  (md_any y m w hL).mono fun _ _ ⟨a, b⟩ => ⟨a, b.symm⟩

set_option maxHeartbeats 1000000 in
theorem of_no (y m d : Int) (h : okB y m d = false) (w : World) (hL : Len w) : Calls Tryd.prog 37 #[.agg #[.int .i64 y, .int .i64 m, .int .i64 d]] w fun e w' => e = .returned (.tuple #[.int .i64 0, .int .i64 15]) ∧ Below w.heap.size w w' := by
  have hL2 := hL.alloc (.cells #[.int .i64 y, .int .i64 m, .int .i64 d] 77)
  by_cases h1 : d < 1
  · have d1 : decide (d < 1) = true := decide_eq_true h1
    clear h
    go_enter Tryd.func37, Tryd.ntmps37
    go_wp2
    go_quiet ((go_at_call 38; exact Calls.quiet_of_same (md_q _ _ _ (hL2.drewN _))))
    go_wp2
    go_ret2
    exact ⟨rfl, below_drewN ((Below.refl _ _).alloc (Nat.le_refl _) _) _⟩
  · have d1 : decide (d < 1) = false := decide_eq_false h1
    have d2 : decide (mdV y m < d) = true := by
      simp only [okB, Bool.and_eq_false_iff, decide_eq_false_iff_not] at h
      apply decide_eq_true; omega
    clear h
    go_enter Tryd.func37, Tryd.ntmps37
    go_wp2
    go_quiet ((go_at_call 38; exact Calls.quiet_of_same (md_q _ _ _ (hL2.drewN _))))
    go_wp2
    go_ret2
    exact ⟨rfl, below_drewN ((Below.refl _ _).alloc (Nat.le_refl _) _) _⟩

set_option maxHeartbeats 1000000 in
theorem of_yes (y m d : Int) (h : okB y m d = true) (w : World) (hL : Len w) : Calls Tryd.prog 37 #[.agg #[.int .i64 y, .int .i64 m, .int .i64 d]] w fun e w' => e = .returned (.tuple #[.int .i64 (num y m d), .int .i64 0]) ∧ Below w.heap.size w w' := by
  have hL2 := hL.alloc (.cells #[.int .i64 y, .int .i64 m, .int .i64 d] 77)
  obtain ⟨y1, y2, m1, m2, dd1, dd2⟩ := okB_iff.1 h
  have hdb := dim_bd y m
  have hjb := jan_bd y y1 (by omega)
  have d1 : decide (d < 1) = false := decide_eq_false (by omega)
  have d2 : decide (mdV y m < d) = false := by rw [mdV_in y1 y2 m1 m2]; exact decide_eq_false (by omega)
  have dd3 : d ≤ 31 := by omega
  clear h dd2
  go_enter Tryd.func37, Tryd.ntmps37
  go_wp2
  go_quiet ((go_at_call 38; exact Calls.quiet_of_same (md_q _ _ _ (hL2.drewN _))))
  go_wp2_with (go_at_call 54; refine (jan_any _ (by omega) (by omega) _).mono ?_; rintro e w' ⟨rfl, rfl⟩)
  go_loop [4, 5] (fun dv mv => ∃ k : Int, 1 ≤ k ∧ k ≤ m ∧ mv = .int .i64 k ∧ dv = .int .i64 (jan y + cum y k)) (fun _ mv => (m - RowKit.intOf mv).toNat)
  case atStart => exact ⟨1, by omega, m1, rfl, by rw [cum_one]; simp⟩
  case round =>
    obtain ⟨k, k1, k2, rfl, rfl⟩ := hrel
    have hcb := cum_bd y k
    have hkb := dim_bd y k
    by_cases hlt : k < m
    · have HS := Lib.hid (cum_succ y k k1 (by omega))
      have HM := Lib.hid (mdV_in (m := k) y1 y2 k1 (by omega))
      have hmb := mdV_bd y k
      go_wp2_with (go_at_call 38; refine (md_any _ _ _ (hL2.drewN _)).mono ?_; rintro e w' ⟨rfl, rfl⟩)
      go_round
      case rel => exact ⟨k + 1, by omega, by omega, rfl, congrArg (Value.int .i64) (by rw [HS.out, HM.out]; omega)⟩
      case measure => simp [RowKit.intOf]; omega
    · obtain rfl : k = m := by omega
      go_wp2
      go_ret2
      exact ⟨ret_pair (by unfold num; omega), below_drewN ((Below.refl _ _).alloc (Nat.le_refl _) _) _⟩

theorem to_no (n : Int) (h : inB n = false) (w : World) : Calls Tryd.prog 36 #[.int .i64 n] w fun e w' => e = .returned (.agg #[.int .i64 0, .int .i64 0, .int .i64 0]) ∧ Below w.heap.size w w' := by
  have H := in_any n
  rw [h] at H
  have HI := Lib.hid H
  clear H h
  go_enter Tryd.func36, Tryd.ntmps36
  go_wp2_with (go_at_call 53; refine (HI.out _).mono ?_; rintro e w' ⟨rfl, rfl⟩)
  exact bodyPost_ret (v := .agg #[.int .i64 0, .int .i64 0, .int .i64 0]) (by simp [results, Tryd.results36, go_sem]) rfl ⟨rfl, (Below.refl _ _).alloc (Nat.le_refl _) _⟩

set_option maxHeartbeats 2000000 in
theorem to_yes (y m d n : Int) (h : okB y m d = true) (hn : num y m d = n) (w : World) (hL : Len w) : Calls Tryd.prog 36 #[.int .i64 n] w fun e w' => e = .returned (.agg #[.int .i64 y, .int .i64 m, .int .i64 d]) ∧ Below w.heap.size w w' := by
  have hL2 := fun o => hL.alloc o
  have HL := Lib.hid hL2
  obtain ⟨n1, n2⟩ := num_bd h
  obtain ⟨i1, i2, i3, i4⟩ := num_in h
  rw [hn] at n1 n2 i1 i2 i3 i4
  have H := in_any n
  rw [inB_yes n1 n2] at H
  have HI := Lib.hid H
  obtain ⟨y1, y2, m1, m2, -, -⟩ := okB_iff.1 h
  have HD : Hid (d = n - jan y - cum y m + 1) := Lib.hid (by unfold num at hn; omega)
  have g0 : 1900 + (n + 25567) / 366 ≤ y := by
    have := jan_most 1900 (y + 1) (by omega)
    rw [jan_first] at this
    omega
  clear H h hn hL2
  go_enter Tryd.func36, Tryd.ntmps36
  go_wp2_with (go_at_call 53; refine (HI.out _).mono ?_; rintro e w' ⟨rfl, rfl⟩)
  go_loop [3] (fun t => ∃ z : Int, 1900 ≤ z ∧ z ≤ y ∧ t = .int .i64 z) (fun t => (y - RowKit.intOf t).toNat)
  case atStart => exact ⟨_, by omega, g0, rfl⟩
  case round =>
    obtain ⟨z, z1, z2, rfl⟩ := hrel
    clear g0
    by_cases hlt : z < y
    · have hj := jan_mono (z + 1) y (by omega)
      have hc : jan (z + 1) ≤ n := by omega
      go_wp2_with (go_at_call 54; refine (jan_any _ (by omega) (by omega) _).mono ?_; rintro e w' ⟨rfl, rfl⟩)
      go_round
      case rel => exact ⟨z + 1, by omega, by omega, rfl⟩
      case measure => simp [RowKit.intOf]; omega
    · obtain rfl : z = y := by omega
      have hjb := jan_bd z y1 (by omega)
      have hc : ¬ jan (z + 1) ≤ n := by omega
      go_wp2_with (go_at_call 54; refine (jan_any _ (by omega) (by omega) _).mono ?_; rintro e w' ⟨rfl, rfl⟩)
      clear hc
      go_loop [4, 5] (fun r k => ∃ q : Int, 1 ≤ q ∧ q ≤ m ∧ k = .int .i64 q ∧ r = .int .i64 (n - jan z - cum z q)) (fun _ k => (m - RowKit.intOf k).toNat)
      case atStart => exact ⟨1, by omega, m1, rfl, by rw [cum_one]; simp⟩
      case round =>
        obtain ⟨q, q1, q2, rfl, rfl⟩ := hrel
        have hcb := cum_bd z q
        have hdb := mdV_bd z q
        have HS := Lib.hid (cum_succ z q q1 (by omega))
        have HM := Lib.hid (mdV_in (m := q) y1 y2 q1 (by omega))
        by_cases hq : q < m
        · have hge : mdV z q ≤ n - jan z - cum z q := by
            have := cum_mono z q m q1 hq (by omega)
            rw [HM.out]; omega
          go_wp2_with (go_at_call 38; refine (md_any _ _ _ (HL.out _)).mono ?_; rintro e w' ⟨rfl, rfl⟩)
          go_round
          case rel => exact ⟨q + 1, by omega, by omega, rfl, congrArg (Value.int .i64) (by rw [HS.out, HM.out]; omega)⟩
          case measure => simp [RowKit.intOf]; omega
        · obtain rfl : q = m := by omega
          have hge : ¬ mdV z q ≤ n - jan z - cum z q := by
            have := HS.out
            rw [HM.out]; omega
          go_wp2_with (go_at_call 38; refine (md_any _ _ _ (HL.out _)).mono ?_; rintro e w' ⟨rfl, rfl⟩)
          obtain rfl := HD.out
          exact bodyPost_ret (v := .agg #[.int .i64 z, .int .i64 q, .int .i64 (n - jan z - cum z q + 1)]) (by simp [results, Tryd.results36, go_sem]) rfl ⟨rfl, (Below.refl _ _).alloc (Nat.le_refl _) _⟩

end Go.Proofs.YtogdiiengbmiiaaDoor.Pe
