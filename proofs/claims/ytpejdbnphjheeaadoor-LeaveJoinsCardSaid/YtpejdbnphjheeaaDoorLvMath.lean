/-
  What is proved: plain facts on the calendar: leap years, months' lengths, the number of a date, that each day from -25567 to 84005 has just one date, and how dates' numbers rise. Conditions: none.
-/
namespace Go.Proofs.YtpejdbnphjheeaaDoor.Cv

/-- A leap year. -/
def lpB (y : Int) : Bool := decide (y % 4 = 0) && (!decide (y % 100 = 0) || decide (y % 400 = 0))
def lp (y : Int) : Int := if lpB y = true then 1 else 0
theorem lp_bd (y : Int) : 0 ≤ lp y ∧ lp y ≤ 1 := by unfold lp; split <;> omega
theorem lp_yes {y : Int} (h : lpB y = true) : lp y = 1 := by simp [lp, h]
theorem lp_no {y : Int} (h : lpB y = false) : lp y = 0 := by simp [lp, h]
theorem lpB_iff (y : Int) : lpB y = true ↔ y % 4 = 0 ∧ (y % 100 ≠ 0 ∨ y % 400 = 0) := by simp [lpB]

/-- A month's length in a year that isn't a leap year. -/
def lenM (m : Int) : Int := if m = 2 then 28 else if m = 4 ∨ m = 6 ∨ m = 9 ∨ m = 11 then 30 else 31
/-- A month's length. -/
def dim (y m : Int) : Int := if m = 2 then 28 + lp y else lenM m
theorem dim_bd (y m : Int) : 28 ≤ dim y m ∧ dim y m ≤ 31 := by
  have := lp_bd y
  unfold dim lenM; repeat' split
  all_goals omega
/-- The days of a year ahead of a month. -/
def cum (y m : Int) : Int :=
  if m ≤ 1 then 0 else if m ≤ 2 then 31 else lp y + (if m ≤ 3 then 59 else if m ≤ 4 then 90 else if m ≤ 5 then 120 else if m ≤ 6 then 151 else if m ≤ 7 then 181 else if m ≤ 8 then 212 else if m ≤ 9 then 243 else if m ≤ 10 then 273 else if m ≤ 11 then 304 else if m ≤ 12 then 334 else 365)
theorem cum_one (y : Int) : cum y 1 = 0 := rfl
theorem cum_end (y : Int) : cum y 13 = 365 + lp y := by simp [cum]; omega
theorem cum_succ (y m : Int) (h1 : 1 ≤ m) (h2 : m ≤ 12) : cum y (m + 1) = cum y m + dim y m := by
  have h : m = 1 ∨ m = 2 ∨ m = 3 ∨ m = 4 ∨ m = 5 ∨ m = 6 ∨ m = 7 ∨ m = 8 ∨ m = 9 ∨ m = 10 ∨ m = 11 ∨ m = 12 := by omega
  rcases h with rfl | rfl | rfl | rfl | rfl | rfl | rfl | rfl | rfl | rfl | rfl | rfl <;> simp [cum, dim, lenM] <;> omega
theorem cum_bd (y m : Int) : 0 ≤ cum y m ∧ cum y m ≤ 366 := by
  have h := lp_bd y
  unfold cum
  by_cases h1 : m ≤ 1
  · rw [if_pos h1]; omega
  · by_cases h2 : m ≤ 2
    · rw [if_neg h1, if_pos h2]; omega
    · rw [if_neg h1, if_neg h2]
      generalize hx : (if m ≤ 3 then (59 : Int) else _) = x
      have : 59 ≤ x ∧ x ≤ 365 := by rw [← hx]; clear hx h; omega
      omega
theorem cum_up (y : Int) (a : Int) (h1 : 1 ≤ a) : ∀ k : Nat, a + k ≤ 13 → cum y a + 28 * k ≤ cum y (a + k)
  | 0, _ => by simp
  | k + 1, h => by
    have ih := cum_up y a h1 k (by omega)
    have hs := cum_succ y (a + k) (by omega) (by omega)
    have hd := dim_bd y (a + k)
    rw [show a + ((k + 1 : Nat) : Int) = a + k + 1 by omega]
    omega
theorem cum_mono (y a b : Int) (h1 : 1 ≤ a) (h2 : a < b) (h3 : b ≤ 13) : cum y a + dim y a ≤ cum y b := by
  have hs := cum_succ y a h1 (by omega)
  have := cum_up y (a + 1) (by omega) (b - (a + 1)).toNat (by omega)
  rw [show a + 1 + ((b - (a + 1)).toNat : Int) = b by omega] at this
  omega

/-- The first day of a year. -/
def jan (y : Int) : Int := -25567 + ((y - 1900) * 365 + ((y - 1) / 4 - (y - 1) / 100 + (y - 1) / 400 - 460))
theorem jan_first : jan 1900 = -25567 := by decide
theorem jan_last : jan 2200 = 84006 := by decide
theorem jan_succ (y : Int) : jan (y + 1) = jan y + 365 + lp y := by
  unfold jan
  cases h : lpB y with
  | true => rw [lp_yes h]; rw [lpB_iff] at h; omega
  | false =>
    rw [lp_no h]
    have : ¬ (y % 4 = 0 ∧ (y % 100 ≠ 0 ∨ y % 400 = 0)) := by rw [← lpB_iff, h]; simp
    omega
theorem jan_up (a : Int) : ∀ k : Nat, jan a + 365 * k ≤ jan (a + k)
  | 0 => by simp
  | k + 1 => by
    have ih := jan_up a k
    have hs := jan_succ (a + k)
    have hl := lp_bd (a + k)
    rw [show a + ((k + 1 : Nat) : Int) = a + k + 1 by omega]
    omega
theorem jan_mono (a b : Int) (h : a ≤ b) : jan a + 365 * (b - a) ≤ jan b := by
  have := jan_up a (b - a).toNat
  rw [show a + ((b - a).toNat : Int) = b by omega] at this
  omega
theorem jan_up2 (a : Int) : ∀ k : Nat, jan (a + k) ≤ jan a + 366 * k
  | 0 => by simp
  | k + 1 => by
    have ih := jan_up2 a k
    have hs := jan_succ (a + k)
    have hl := lp_bd (a + k)
    rw [show a + ((k + 1 : Nat) : Int) = a + k + 1 by omega]
    omega
theorem jan_most (a b : Int) (h : a ≤ b) : jan b ≤ jan a + 366 * (b - a) := by
  have := jan_up2 a (b - a).toNat
  rw [show a + ((b - a).toNat : Int) = b by omega] at this
  omega
theorem jan_bd (y : Int) (h1 : 1900 ≤ y) (h2 : y ≤ 2200) : -25567 ≤ jan y ∧ jan y ≤ 84006 := by
  have a := jan_mono 1900 y h1
  have b := jan_mono y 2200 h2
  rw [jan_first] at a; rw [jan_last] at b
  omega

/-- How many days a month of the calendar has; 0 of others. -/
def mdV (y m : Int) : Int := if 1900 ≤ y ∧ y ≤ 2199 ∧ 1 ≤ m ∧ m ≤ 12 then dim y m else 0
theorem mdV_in {y m : Int} (a : 1900 ≤ y) (b : y ≤ 2199) (c : 1 ≤ m) (d : m ≤ 12) : mdV y m = dim y m := by simp [mdV, a, b, c, d]
theorem mdV_out {y m : Int} (h : y < 1900 ∨ 2199 < y ∨ m < 1 ∨ 12 < m) : mdV y m = 0 := by unfold mdV; rw [if_neg (by omega)]
theorem mdV_bd (y m : Int) : 0 ≤ mdV y m ∧ mdV y m ≤ 31 := by have := dim_bd y m; unfold mdV; split <;> omega

/-- A date is right. -/
def okB (y m d : Int) : Bool := decide (1 ≤ d) && decide (d ≤ mdV y m)
theorem okB_iff {y m d : Int} : okB y m d = true ↔ 1900 ≤ y ∧ y ≤ 2199 ∧ 1 ≤ m ∧ m ≤ 12 ∧ 1 ≤ d ∧ d ≤ dim y m := by
  simp only [okB, Bool.and_eq_true, decide_eq_true_eq]
  constructor
  · rintro ⟨h1, h2⟩
    unfold mdV at h2
    split at h2
    · rename_i h; exact ⟨h.1, h.2.1, h.2.2.1, h.2.2.2, h1, h2⟩
    · omega
  · rintro ⟨a, b, c, d, e, f⟩
    exact ⟨e, by rw [mdV_in a b c d]; exact f⟩
/-- A date's number. -/
def num (y m d : Int) : Int := jan y + cum y m + d - 1

theorem num_in {y m d : Int} (h : okB y m d = true) : jan y ≤ num y m d ∧ num y m d < jan (y + 1) ∧ cum y m ≤ num y m d - jan y ∧ num y m d - jan y < cum y (m + 1) := by
  obtain ⟨a, b, c, d, e, f⟩ := okB_iff.1 h
  have h1 := cum_bd y m
  have h2 := cum_succ y m c d
  have h3 := jan_succ y
  have h4 := cum_end y
  have h5 : cum y (m + 1) ≤ cum y 13 := by
    by_cases e : m = 12
    · subst e; exact Int.le_refl _
    · have := cum_mono y (m + 1) 13 (by omega) (by omega) (by omega); have := dim_bd y (m + 1); omega
  unfold num
  omega
theorem num_bd {y m d : Int} (h : okB y m d = true) : -25567 ≤ num y m d ∧ num y m d ≤ 84005 := by
  obtain ⟨a, b, -⟩ := okB_iff.1 h
  have h1 := num_in h
  have h2 := jan_bd y a (by omega)
  have h3 := jan_bd (y + 1) (by omega) (by omega)
  omega
/-- Which of two dates is ahead. -/
def ahead (y m d y' m' d' : Int) : Prop := y < y' ∨ (y = y' ∧ (m < m' ∨ (m = m' ∧ d < d')))
theorem num_lt_of {y m d y' m' d' : Int} (h : okB y m d = true) (h' : okB y' m' d' = true) (hl : ahead y m d y' m' d') : num y m d < num y' m' d' := by
  have a := num_in h
  have b := num_in h'
  obtain ⟨-, -, c1, c2, -, -⟩ := okB_iff.1 h
  obtain ⟨-, -, d1, d2, -, -⟩ := okB_iff.1 h'
  rcases hl with hy | ⟨rfl, hm | ⟨rfl, hd⟩⟩
  · have := jan_mono (y + 1) y' (by omega); omega
  · have h1 := cum_mono y m m' c1 hm (by omega)
    have h2 := cum_succ y m c1 c2
    omega
  · unfold num; omega
theorem ahead_or (y m d y' m' d' : Int) : ahead y m d y' m' d' ∨ (y = y' ∧ m = m' ∧ d = d') ∨ ahead y' m' d' y m d := by
  unfold ahead; omega
theorem num_lt {y m d y' m' d' : Int} (h : okB y m d = true) (h' : okB y' m' d' = true) : num y m d < num y' m' d' ↔ ahead y m d y' m' d' := by
  refine ⟨fun hl => ?_, num_lt_of h h'⟩
  rcases ahead_or y m d y' m' d' with a | ⟨rfl, rfl, rfl⟩ | a
  · exact a
  · omega
  · have := num_lt_of h' h a; omega
theorem num_inj {y m d y' m' d' : Int} (h : okB y m d = true) (h' : okB y' m' d' = true) (he : num y m d = num y' m' d') : y = y' ∧ m = m' ∧ d = d' := by
  rcases ahead_or y m d y' m' d' with a | a | a
  · have := num_lt_of h h' a; omega
  · exact a
  · have := num_lt_of h' h a; omega

theorem year_at (n : Int) (h0 : -25567 ≤ n) : ∀ k : Nat, n < jan (1900 + k) → ∃ y : Int, 1900 ≤ y ∧ y < 1900 + (k : Int) ∧ jan y ≤ n ∧ n < jan (y + 1)
  | 0, h => by
    have e : (1900 : Int) + ((0 : Nat) : Int) = 1900 := by omega
    rw [e, jan_first] at h; omega
  | k + 1, h => by
    by_cases hk : n < jan (1900 + k)
    · obtain ⟨y, a, b, c⟩ := year_at n h0 k hk
      exact ⟨y, a, by omega, c⟩
    · exact ⟨1900 + k, by omega, by omega, by omega, by rw [show (1900 : Int) + k + 1 = 1900 + ((k + 1 : Nat) : Int) by omega]; exact h⟩
theorem month_at (y r : Int) (h0 : 0 ≤ r) : ∀ k : Nat, k ≤ 12 → r < cum y (1 + k) → ∃ m : Int, 1 ≤ m ∧ m < 1 + (k : Int) ∧ cum y m ≤ r ∧ r < cum y (m + 1)
  | 0, _, h => by
    have e : (1 : Int) + ((0 : Nat) : Int) = 1 := by omega
    rw [e, cum_one] at h; omega
  | k + 1, hk2, h => by
    by_cases hk : r < cum y (1 + k)
    · obtain ⟨m, a, b, c⟩ := month_at y r h0 k (by omega) hk
      exact ⟨m, a, by omega, c⟩
    · exact ⟨1 + k, by omega, by omega, by omega, by rw [show (1 : Int) + k + 1 = 1 + ((k + 1 : Nat) : Int) by omega]; exact h⟩
/-- Each day of the calendar has a date. -/
theorem date_of (n : Int) (h0 : -25567 ≤ n) (h1 : n ≤ 84005) : ∃ y m d, okB y m d = true ∧ num y m d = n := by
  obtain ⟨y, a, b, c, d⟩ := year_at n h0 300 (by show n < jan 2200; rw [jan_last]; omega)
  have hs := jan_succ y
  have he := cum_end y
  obtain ⟨m, p, q, r, s⟩ := month_at y (n - jan y) (by omega) 12 (by omega) (by show _ < cum y 13; omega)
  have hc := cum_succ y m p (by omega)
  refine ⟨y, m, n - jan y - cum y m + 1, okB_iff.2 ⟨a, by omega, p, by omega, by omega, by omega⟩, ?_⟩
  unfold num; omega

end Go.Proofs.YtpejdbnphjheeaaDoor.Cv
