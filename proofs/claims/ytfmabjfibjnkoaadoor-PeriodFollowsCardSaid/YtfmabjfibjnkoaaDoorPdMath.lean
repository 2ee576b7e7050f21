/-
  What is proved: plain facts on periods of pay: which spans of days a calendar has, and which of them end in a year. Conditions: none.
-/
import Derived.Test.YtfmabjfibjnkoaaDoorCivMath
namespace Go.Proofs.YtfmabjfibjnkoaaDoor

/-- A span of days is one of a calendar's: a month, or so many days from First on, forth and back. -/
def Blk (k f a b : Int) : Prop :=
  (k = 0 ∧ ∃ y m, 1900 ≤ y ∧ y ≤ 2199 ∧ 1 ≤ m ∧ m ≤ 12 ∧ a = jan y + cum y m ∧ b = jan y + cum y (m + 1)) ∨ ((k = 1 ∨ k = 2) ∧ b = a + 14 * k ∧ (a - f) % (14 * k) = 0)
theorem Blk.len {k f a b : Int} (h : Blk k f a b) : a + 14 ≤ b ∧ b ≤ a + 31 := by
  rcases h with ⟨-, y, m, y1, y2, m1, m2, rfl, rfl⟩ | ⟨hk, rfl, -⟩
  · have := cum_succ y m m1 m2
    have := dim_bd y m
    omega
  · omega
theorem Blk.in_month {y m a b d : Int} (y1 : 1900 ≤ y) (y2 : y ≤ 2199) (m1 : 1 ≤ m) (m2 : m ≤ 12) (ha : a = jan y + cum y m) (hb : b = jan y + cum y (m + 1)) (h1 : a ≤ d) (h2 : d < b) :
    okB y m (d - a + 1) = true ∧ num y m (d - a + 1) = d := by
  have := cum_succ y m m1 m2
  refine ⟨okB_iff.2 ⟨y1, y2, m1, m2, by omega, by omega⟩, by unfold num; omega⟩
theorem Blk.one {k f a b a' b' d : Int} (h : Blk k f a b) (h' : Blk k f a' b') (h1 : a ≤ d) (h2 : d < b) (h3 : a' ≤ d) (h4 : d < b') : a = a' ∧ b = b' := by
  rcases h with ⟨hk, y, m, y1, y2, m1, m2, ha, hb⟩ | ⟨hk, rfl, hm⟩
  · rcases h' with ⟨-, y', m', y1', y2', m1', m2', ha', hb'⟩ | ⟨hk', -, -⟩
    · obtain ⟨o1, n1⟩ := Blk.in_month y1 y2 m1 m2 ha hb h1 h2
      obtain ⟨o2, n2⟩ := Blk.in_month y1' y2' m1' m2' ha' hb' h3 h4
      obtain ⟨rfl, rfl, -⟩ := num_inj o1 o2 (n1.trans n2.symm)
      omega
    · omega
  · rcases h' with ⟨hk', -⟩ | ⟨-, rfl, hm'⟩
    · omega
    · rcases hk with rfl | rfl <;> omega
theorem Blk.month {f : Int} {y m d : Int} (h : okB y m d = true) : Blk 0 f (jan y + cum y m) (jan y + cum y (m + 1)) ∧ jan y + cum y m ≤ num y m d ∧ num y m d < jan y + cum y (m + 1) := by
  obtain ⟨y1, y2, m1, m2, -, -⟩ := okB_iff.1 h
  obtain ⟨-, -, c, d⟩ := num_in h
  exact ⟨.inl ⟨rfl, y, m, y1, y2, m1, m2, rfl, rfl⟩, by omega, by omega⟩
theorem Blk.days {k f d : Int} (hk : k = 1 ∨ k = 2) : Blk k f (d - (d - f) % (14 * k)) (d - (d - f) % (14 * k) + 14 * k) ∧ d - (d - f) % (14 * k) ≤ d ∧ d < d - (d - f) % (14 * k) + 14 * k := by
  refine ⟨.inr ⟨hk, rfl, ?_⟩, ?_⟩ <;> rcases hk with rfl | rfl <;> omega
theorem Blk.at {k f d : Int} (hk : k = 0 ∨ k = 1 ∨ k = 2) (h1 : -25567 ≤ d) (h2 : d ≤ 84005) : ∃ a b, Blk k f a b ∧ a ≤ d ∧ d < b := by
  rcases hk with rfl | hk
  · obtain ⟨y, m, e, ho, rfl⟩ := date_of d h1 h2
    obtain ⟨a, b, c⟩ := Blk.month (f := f) ho
    exact ⟨_, _, a, b, c⟩
  · obtain ⟨a, b, c⟩ := Blk.days (f := f) (d := d) hk
    exact ⟨_, _, a, b, c⟩
theorem jan_lt {y z : Int} (h : jan y < jan z) : y < z := by
  rcases Int.lt_or_le y z with h1 | h1
  · exact h1
  · have := jan_mono z y h1; omega
/-- A month lies in its year. -/
theorem month_year {y m : Int} (m1 : 1 ≤ m) (m2 : m ≤ 12) : jan y ≤ jan y + cum y m ∧ jan y + cum y (m + 1) ≤ jan (y + 1) := by
  have h1 := cum_bd y m
  have h3 := jan_succ y
  have h4 := cum_end y
  have h5 : cum y (m + 1) ≤ cum y 13 := by
    by_cases e : m = 12
    · subst e; exact Int.le_refl _
    · have := cum_mono y (m + 1) 13 (by omega) (by omega) (by omega); have := dim_bd y (m + 1); omega
  omega
/-- A span of a calendar that is whole, and ends in a year. -/
def Ends (k f y a b : Int) : Prop := Blk k f a b ∧ -25567 ≤ a ∧ b ≤ 84006 ∧ jan y < b ∧ b ≤ jan (y + 1)
/-- Those of a year, as they rise. -/
def IsYear (k f y : Int) (K : List (Int × Int)) : Prop := K.Pairwise (fun s t => s.1 < t.1) ∧ ∀ s, s ∈ K ↔ Ends k f y s.1 s.2
theorem rise_one2 {K L : List (Int × Int)} (h1 : K.Pairwise (fun s t => s.1 < t.1)) (h2 : L.Pairwise (fun s t => s.1 < t.1)) (h : ∀ s, s ∈ K ↔ s ∈ L) : K = L := by
  induction K generalizing L with
  | nil =>
    cases L with
    | nil => rfl
    | cons t L => exact absurd ((h t).2 (List.mem_cons_self ..)) (by simp)
  | cons s K ih =>
    cases L with
    | nil => exact absurd ((h s).1 (List.mem_cons_self ..)) (by simp)
    | cons t L =>
      rw [List.pairwise_cons] at h1 h2
      have e : s = t := by
        rcases List.mem_cons.1 ((h s).1 (List.mem_cons_self ..)) with e | e
        · exact e
        · rcases List.mem_cons.1 ((h t).2 (List.mem_cons_self ..)) with e' | e'
          · exact e'.symm
          · have := h1.1 t e'; have := h2.1 s e; omega
      subst e
      rw [ih h1.2 h2.2 fun x => ?_]
      have hx := h x
      rw [List.mem_cons, List.mem_cons] at hx
      constructor
      · intro hm
        rcases hx.1 (.inr hm) with e | e
        · subst e; have := h1.1 _ hm; omega
        · exact e
      · intro hm
        rcases hx.2 (.inr hm) with e | e
        · subst e; have := h2.1 _ hm; omega
        · exact e
theorem IsYear.one {k f y : Int} {K L : List (Int × Int)} (h1 : IsYear k f y K) (h2 : IsYear k f y L) : K = L := rise_one2 h1.1 h2.1 fun s => by rw [h1.2, h2.2]
/-- Spans of a year don't meet. -/
theorem Blk.apart {k f a b a' b' : Int} (h : Blk k f a b) (h' : Blk k f a' b') (hlt : a < a') : b ≤ a' := by
  rcases Int.lt_or_le a' b with h1 | h1
  · have l := h.len
    have l' := h'.len
    have := Blk.one (d := a') h h' (by omega) h1 (by omega) (by omega)
    omega
  · exact h1
/-- How many a year has at most. -/
theorem rows_len {K : List (Int × Int)} {lo hi : Int} : K.Pairwise (fun s t => s.1 < t.1) → (∀ s ∈ K, lo ≤ s.1 ∧ s.1 < hi) → K.length ≤ (hi - lo).toNat := by
  induction K generalizing lo with
  | nil => intro _ _; simp
  | cons s K ih =>
    intro h1 h2
    rw [List.pairwise_cons] at h1
    have a := h2 s (List.mem_cons_self ..)
    have := ih (lo := s.1 + 1) h1.2 (fun t ht => ⟨by have := h1.1 t ht; omega, (h2 t (List.mem_cons_of_mem _ ht)).2⟩)
    rw [List.length_cons]
    omega
theorem IsYear.len {k f y : Int} {K : List (Int × Int)} (h : IsYear k f y K) : K.length ≤ 400 := by
  have h3 := jan_succ y
  have := lp_bd y
  have := rows_len (lo := jan y - 31) (hi := jan (y + 1)) h.1 fun s hs => by
    obtain ⟨b, -, -, c, d⟩ := (h.2 s).1 hs
    have := b.len
    omega
  omega
/-- The next span behind those up to a day. -/
def Upto (k f y d : Int) (K : List (Int × Int)) : Prop := K.Pairwise (fun s t => s.1 < t.1) ∧ ∀ s, s ∈ K ↔ Ends k f y s.1 s.2 ∧ s.2 ≤ d
theorem Upto.start (k f y : Int) : Upto k f y (jan y) [] := ⟨List.Pairwise.nil, fun s => ⟨(fun h => by cases h), fun ⟨⟨hB, _, _, h, _⟩, h'⟩ => by have := hB.len; omega⟩⟩
theorem Upto.add {k f y d a b : Int} {K : List (Int × Int)} (h : Upto k f y d K) (hB : Blk k f a b) (h1 : a ≤ d) (h2 : d < b) (hE : Ends k f y a b) : Upto k f y b (K ++ [(a, b)]) := by
  refine ⟨?_, fun s => ?_⟩
  · rw [List.pairwise_append]
    refine ⟨h.1, List.pairwise_singleton _ _, fun s hs t ht => ?_⟩
    obtain rfl := List.mem_singleton.1 ht
    obtain ⟨⟨b1, -⟩, b2⟩ := (h.2 s).1 hs
    have l := b1.len
    rcases Int.lt_or_le s.1 a with h3 | h3
    · exact h3
    · have := Blk.one (d := s.1) b1 hB (by omega) (by omega) h3 (by omega)
      omega
  · rw [List.mem_append, List.mem_singleton, h.2 s]
    constructor
    · rintro (⟨g1, g2⟩ | rfl)
      · exact ⟨g1, by omega⟩
      · exact ⟨hE, Int.le_refl _⟩
    · rintro ⟨g1, g2⟩
      rcases Int.lt_or_le d s.2 with h3 | h3
      · have l := g1.1.len
        have := Blk.one (d := s.2 - 1) g1.1 hB (by omega) (by omega) (by omega) (by omega)
        exact .inr (Prod.ext this.1 this.2)
      · exact .inl ⟨g1, h3⟩
theorem Upto.skip {k f y d a b : Int} {K : List (Int × Int)} (h : Upto k f y d K) (hB : Blk k f a b) (h1 : a ≤ d) (h2 : d < b) (hE : ¬ Ends k f y a b) : Upto k f y b K := by
  refine ⟨h.1, fun s => ?_⟩
  rw [h.2 s]
  constructor
  · rintro ⟨g1, g2⟩; exact ⟨g1, by omega⟩
  · rintro ⟨g1, g2⟩
    rcases Int.lt_or_le d s.2 with h3 | h3
    · have l := g1.1.len
      have := Blk.one (d := s.2 - 1) g1.1 hB (by omega) (by omega) (by omega) (by omega)
      rw [this.1, this.2] at g1
      exact absurd g1 hE
    · exact ⟨g1, h3⟩
theorem Upto.done {k f y d : Int} {K : List (Int × Int)} (h : Upto k f y d K) (hd : jan (y + 1) ≤ d) : IsYear k f y K := ⟨h.1, fun s => by
  rw [h.2 s]
  exact ⟨fun g => g.1, fun g => ⟨g, by have := g.2.2.2.2; omega⟩⟩⟩
/-- Each span that is whole ends in a year. -/
theorem ends_year {k f a b : Int} (h : Blk k f a b) (h1 : -25567 ≤ a) (h2 : b ≤ 84006) : ∃ y, 1900 ≤ y ∧ y ≤ 2199 ∧ Ends k f y a b := by
  have l := h.len
  obtain ⟨y, y1, y2, j1, j2⟩ := year_at (b - 1) (by omega) 300 (by show b - 1 < jan 2200; rw [jan_last]; omega)
  exact ⟨y, y1, by omega, h, h1, h2, by omega, by omega⟩
theorem year_one {y z d : Int} (h1 : jan y ≤ d) (h2 : d < jan (y + 1)) (h3 : jan z ≤ d) (h4 : d < jan (z + 1)) : y = z := by
  have a := jan_lt (show jan y < jan (z + 1) by omega)
  have b := jan_lt (show jan z < jan (y + 1) by omega)
  omega

end Go.Proofs.YtfmabjfibjnkoaaDoor
