/-
  What is proved: texts of other seats, joined for this one: what each theorem says. Conditions: as each says.
-/
import Derived.Test.YtogdiiengbmiiaaDoorTaPeA
import Derived.Laws.StructEq
import Derived.Deep.RegionHeld3
namespace Go.Proofs.YtogdiiengbmiiaaDoor.Pe

/-- A span of days is one of a calendar's: a month, or so many days from First on, forth and back. -/
def Blk (k f a b : Int) : Prop :=
  (k = 0 ∧ ∃ y m, 1900 ≤ y ∧ y ≤ 2199 ∧ 1 ≤ m ∧ m ≤ 12 ∧ a = jan y + cum y m ∧ b = jan y + cum y (m + 1)) ∨ ((k = 1 ∨ k = 2) ∧ b = a + 14 * k ∧ (a - f) % (14 * k) = 0)
theorem Blk.len {k f a b : Int} (h : Blk k f a b) : a + 14 ≤ b ∧ b ≤ a + 31 := by
  rcases h with ⟨-, y, m, y1, y2, m1, m2, rfl, rfl⟩ | ⟨hk, rfl, -⟩
  · have := cum_succ y m m1 m2
    have := dim_bd y m
    omega
  · omega
theorem Blk.in_month {y m a b d : Int} (y1 : 1900 ≤ y) (y2 : y ≤ 2199) (m1 : 1 ≤ m) (m2 : m ≤ 12) (ha : a = jan y + cum y m) (hb : b = jan y + cum y (m + 1)) (h1 : a ≤ d) (h2 : d < b) :
    okB y m (d - a + 1) = true ∧ num y m (d - a + 1) = d := by
  have := cum_succ y m m1 m2
  refine ⟨okB_iff.2 ⟨y1, y2, m1, m2, by omega, by omega⟩, by unfold num; omega⟩
theorem Blk.one {k f a b a' b' d : Int} (h : Blk k f a b) (h' : Blk k f a' b') (h1 : a ≤ d) (h2 : d < b) (h3 : a' ≤ d) (h4 : d < b') : a = a' ∧ b = b' := by
  rcases h with ⟨hk, y, m, y1, y2, m1, m2, ha, hb⟩ | ⟨hk, rfl, hm⟩
  · rcases h' with ⟨-, y', m', y1', y2', m1', m2', ha', hb'⟩ | ⟨hk', -, -⟩
    · obtain ⟨o1, n1⟩ := Blk.in_month y1 y2 m1 m2 ha hb h1 h2
      obtain ⟨o2, n2⟩ := Blk.in_month y1' y2' m1' m2' ha' hb' h3 h4
      obtain ⟨rfl, rfl, -⟩ := num_inj o1 o2 (n1.trans n2.symm)
      omega
    · omega
  · rcases h' with ⟨hk', -⟩ | ⟨-, rfl, hm'⟩
    · omega
    · rcases hk with rfl | rfl <;> omega
theorem Blk.month {f : Int} {y m d : Int} (h : okB y m d = true) : Blk 0 f (jan y + cum y m) (jan y + cum y (m + 1)) ∧ jan y + cum y m ≤ num y m d ∧ num y m d < jan y + cum y (m + 1) := by
  obtain ⟨y1, y2, m1, m2, -, -⟩ := okB_iff.1 h
  obtain ⟨-, -, c, d⟩ := num_in h
  exact ⟨.inl ⟨rfl, y, m, y1, y2, m1, m2, rfl, rfl⟩, by omega, by omega⟩
theorem Blk.days {k f d : Int} (hk : k = 1 ∨ k = 2) : Blk k f (d - (d - f) % (14 * k)) (d - (d - f) % (14 * k) + 14 * k) ∧ d - (d - f) % (14 * k) ≤ d ∧ d < d - (d - f) % (14 * k) + 14 * k := by
  refine ⟨.inr ⟨hk, rfl, ?_⟩, ?_⟩ <;> rcases hk with rfl | rfl <;> omega
theorem Blk.at {k f d : Int} (hk : k = 0 ∨ k = 1 ∨ k = 2) (h1 : -25567 ≤ d) (h2 : d ≤ 84005) : ∃ a b, Blk k f a b ∧ a ≤ d ∧ d < b := by
  rcases hk with rfl | hk
  · obtain ⟨y, m, e, ho, rfl⟩ := date_of d h1 h2
    obtain ⟨a, b, c⟩ := Blk.month (f := f) ho
    exact ⟨_, _, a, b, c⟩
  · obtain ⟨a, b, c⟩ := Blk.days (f := f) (d := d) hk
    exact ⟨_, _, a, b, c⟩
theorem jan_lt {y z : Int} (h : jan y < jan z) : y < z := by
  rcases Int.lt_or_le y z with h1 | h1
  · exact h1
  · have := jan_mono z y h1; omega
/-- A month lies in its year. -/
theorem month_year {y m : Int} (m1 : 1 ≤ m) (m2 : m ≤ 12) : jan y ≤ jan y + cum y m ∧ jan y + cum y (m + 1) ≤ jan (y + 1) := by
  have h1 := cum_bd y m
  have h3 := jan_succ y
  have h4 := cum_end y
  have h5 : cum y (m + 1) ≤ cum y 13 := by
    by_cases e : m = 12
    · subst e; exact Int.le_refl _
    · have := cum_mono y (m + 1) 13 (by omega) (by omega) (by omega); have := dim_bd y (m + 1); omega
  omega
/-- A span of a calendar that is whole, and ends in a year. -/
def Ends (k f y a b : Int) : Prop := Blk k f a b ∧ -25567 ≤ a ∧ b ≤ 84006 ∧ jan y < b ∧ b ≤ jan (y + 1)
/-- Those of a year, as they rise. -/
def IsYear (k f y : Int) (K : List (Int × Int)) : Prop := K.Pairwise (fun s t => s.1 < t.1) ∧ ∀ s, s ∈ K ↔ Ends k f y s.1 s.2
theorem rise_one2 {K L : List (Int × Int)} (h1 : K.Pairwise (fun s t => s.1 < t.1)) (h2 : L.Pairwise (fun s t => s.1 < t.1)) (h : ∀ s, s ∈ K ↔ s ∈ L) : K = L := by
  induction K generalizing L with
  | nil =>
    cases L with
    | nil => rfl
    | cons t L => exact absurd ((h t).2 (List.mem_cons_self ..)) (by simp)
  | cons s K ih =>
    cases L with
    | nil => exact absurd ((h s).1 (List.mem_cons_self ..)) (by simp)
    | cons t L =>
      rw [List.pairwise_cons] at h1 h2
      have e : s = t := by
        rcases List.mem_cons.1 ((h s).1 (List.mem_cons_self ..)) with e | e
        · exact e
        · rcases List.mem_cons.1 ((h t).2 (List.mem_cons_self ..)) with e' | e'
          · exact e'.symm
          · have := h1.1 t e'; have := h2.1 s e; omega
      subst e
      rw [ih h1.2 h2.2 fun x => ?_]
      have hx := h x
      rw [List.mem_cons, List.mem_cons] at hx
      constructor
      · intro hm
        rcases hx.1 (.inr hm) with e | e
        · subst e; have := h1.1 _ hm; omega
        · exact e
      · intro hm
        rcases hx.2 (.inr hm) with e | e
        · subst e; have := h2.1 _ hm; omega
        · exact e
theorem IsYear.one {k f y : Int} {K L : List (Int × Int)} (h1 : IsYear k f y K) (h2 : IsYear k f y L) : K = L := rise_one2 h1.1 h2.1 fun s => by rw [h1.2, h2.2]
/-- Spans of a year don't meet. -/
theorem Blk.apart {k f a b a' b' : Int} (h : Blk k f a b) (h' : Blk k f a' b') (hlt : a < a') : b ≤ a' := by
  rcases Int.lt_or_le a' b with h1 | h1
  · have l := h.len
    have l' := h'.len
    have := Blk.one (d := a') h h' (by omega) h1 (by omega) (by omega)
    omega
  · exact h1
/-- How many a year has at most. -/
theorem rows_len {K : List (Int × Int)} {lo hi : Int} : K.Pairwise (fun s t => s.1 < t.1) → (∀ s ∈ K, lo ≤ s.1 ∧ s.1 < hi) → K.length ≤ (hi - lo).toNat := by
  induction K generalizing lo with
  | nil => intro _ _; simp
  | cons s K ih =>
    intro h1 h2
    rw [List.pairwise_cons] at h1
    have a := h2 s (List.mem_cons_self ..)
    have := ih (lo := s.1 + 1) h1.2 (fun t ht => ⟨by have := h1.1 t ht; omega, (h2 t (List.mem_cons_of_mem _ ht)).2⟩)
    rw [List.length_cons]
    omega
theorem IsYear.len {k f y : Int} {K : List (Int × Int)} (h : IsYear k f y K) : K.length ≤ 400 := by
  have h3 := jan_succ y
  have := lp_bd y
  have := rows_len (lo := jan y - 31) (hi := jan (y + 1)) h.1 fun s hs => by
    obtain ⟨b, -, -, c, d⟩ := (h.2 s).1 hs
    have := b.len
    omega
  omega
/-- The next span behind those up to a day. -/
def Upto (k f y d : Int) (K : List (Int × Int)) : Prop := K.Pairwise (fun s t => s.1 < t.1) ∧ ∀ s, s ∈ K ↔ Ends k f y s.1 s.2 ∧ s.2 ≤ d
theorem Upto.start (k f y : Int) : Upto k f y (jan y) [] := ⟨List.Pairwise.nil, fun s => ⟨(fun h => by cases h), fun ⟨⟨hB, _, _, h, _⟩, h'⟩ => by have := hB.len; omega⟩⟩
theorem Upto.add {k f y d a b : Int} {K : List (Int × Int)} (h : Upto k f y d K) (hB : Blk k f a b) (h1 : a ≤ d) (h2 : d < b) (hE : Ends k f y a b) : Upto k f y b (K ++ [(a, b)]) := by
  refine ⟨?_, fun s => ?_⟩
  · rw [List.pairwise_append]
    refine ⟨h.1, List.pairwise_singleton _ _, fun s hs t ht => ?_⟩
    obtain rfl := List.mem_singleton.1 ht
    obtain ⟨⟨b1, -⟩, b2⟩ := (h.2 s).1 hs
    have l := b1.len
    rcases Int.lt_or_le s.1 a with h3 | h3
    · exact h3
    · have := Blk.one (d := s.1) b1 hB (by omega) (by omega) h3 (by omega)
      omega
  · rw [List.mem_append, List.mem_singleton, h.2 s]
    constructor
    · rintro (⟨g1, g2⟩ | rfl)
      · exact ⟨g1, by omega⟩
      · exact ⟨hE, Int.le_refl _⟩
    · rintro ⟨g1, g2⟩
      rcases Int.lt_or_le d s.2 with h3 | h3
      · have l := g1.1.len
        have := Blk.one (d := s.2 - 1) g1.1 hB (by omega) (by omega) (by omega) (by omega)
        exact .inr (Prod.ext this.1 this.2)
      · exact .inl ⟨g1, h3⟩
theorem Upto.skip {k f y d a b : Int} {K : List (Int × Int)} (h : Upto k f y d K) (hB : Blk k f a b) (h1 : a ≤ d) (h2 : d < b) (hE : ¬ Ends k f y a b) : Upto k f y b K := by
  refine ⟨h.1, fun s => ?_⟩
  rw [h.2 s]
  constructor
  · rintro ⟨g1, g2⟩; exact ⟨g1, by omega⟩
  · rintro ⟨g1, g2⟩
    rcases Int.lt_or_le d s.2 with h3 | h3
    · have l := g1.1.len
      have := Blk.one (d := s.2 - 1) g1.1 hB (by omega) (by omega) (by omega) (by omega)
      rw [this.1, this.2] at g1
      exact absurd g1 hE
    · exact ⟨g1, h3⟩
theorem Upto.done {k f y d : Int} {K : List (Int × Int)} (h : Upto k f y d K) (hd : jan (y + 1) ≤ d) : IsYear k f y K := ⟨h.1, fun s => by
  rw [h.2 s]
  exact ⟨fun g => g.1, fun g => ⟨g, by have := g.2.2.2.2; omega⟩⟩⟩
/-- Each span that is whole ends in a year. -/
theorem ends_year {k f a b : Int} (h : Blk k f a b) (h1 : -25567 ≤ a) (h2 : b ≤ 84006) : ∃ y, 1900 ≤ y ∧ y ≤ 2199 ∧ Ends k f y a b := by
  have l := h.len
  obtain ⟨y, y1, y2, j1, j2⟩ := year_at (b - 1) (by omega) 300 (by show b - 1 < jan 2200; rw [jan_last]; omega)
  exact ⟨y, y1, by omega, h, h1, h2, by omega, by omega⟩
theorem year_one {y z d : Int} (h1 : jan y ≤ d) (h2 : d < jan (y + 1)) (h3 : jan z ≤ d) (h4 : d < jan (z + 1)) : y = z := by
  have a := jan_lt (show jan y < jan (z + 1) by omega)
  have b := jan_lt (show jan z < jan (y + 1) by omega)
  omega


open Go Go.RowKit Go.Proofs
set_option linter.unusedVariables false

/-- The table of periods' lengths lies as its text says. -/
def PLen (w : World) : Prop := w.cell? ⟨0, 0, none⟩ = some (.int .i64 0) ∧ w.cell? ⟨0, 1, none⟩ = some (.int .i64 14) ∧ w.cell? ⟨0, 2, none⟩ = some (.int .i64 28)
def Tabs (w : World) : Prop := Len w ∧ PLen w
theorem stay {W W' : World} {a : Addr} {v : Value} (hb : Below W.heap.size W W') (x : W.cell? a = some v) : W'.cell? a = some v := (hb.cell (World.block_lt_of_cell? _ _ x)).trans x
theorem Tabs.stay {W W' : World} (h : Tabs W) (hb : Below W.heap.size W W') : Tabs W' := ⟨h.1.below hb (Nat.le_refl _), YtogdiiengbmiiaaDoor.Pe.stay hb h.2.1, YtogdiiengbmiiaaDoor.Pe.stay hb h.2.2.1, YtogdiiengbmiiaaDoor.Pe.stay hb h.2.2.2⟩
theorem kb_drew {W0 : World} : Below W0.heap.size W0 W0.drew := (Below.refl _ _).drew
theorem kb_call {C : Prop} {W0 w w' : World} (hb : Below w.heap.size w w') (h : C ∧ Below W0.heap.size W0 w) : Below W0.heap.size W0 w' := h.2.trans (hb.mono h.2.size)
theorem bcell {W w1 : World} (hb : Below W.heap.size W w1) : (∀ b o, b < W.heap.size → w1.cell? ⟨b, o, none⟩ = W.cell? ⟨b, o, none⟩) := fun b o h => hb.cell (p := ⟨b, o, none⟩) h

theorem isDay_any (d : Int) (w : World) (hL : Len w) : Calls Tryd.prog 15 #[.int .i64 d] w fun e w' => e = .returned (.bool (inB d)) ∧ Below w.heap.size w w' := by
  cases hin : inB d with
  | false =>
    have HT := Lib.hid (to_no d hin w)
    clear hin
    go_enter Tryd.func15, Tryd.ntmps15
    go_wp2_with fail
    refine (HT.out).mono ?_
    rintro e w1 ⟨rfl, hb⟩
    go_wp2
    go_ret
    exact ⟨rfl, hb⟩
  | true =>
    obtain ⟨h1, h2⟩ := inB_iff.1 hin
    obtain ⟨y, m, e, ho, hn⟩ := date_of d h1 h2
    have HT := Lib.hid (to_yes y m e d ho hn w hL)
    have y1 := (okB_iff.1 ho).1
    have e0 : (y == 0) = false := by simp; omega
    clear hin ho hn
    go_enter Tryd.func15, Tryd.ntmps15
    go_wp2_with fail
    refine (HT.out).mono ?_
    rintro e w1 ⟨rfl, hb⟩
    go_wp2
    go_ret
    exact ⟨rfl, hb⟩

/-- What is wrong with a calendar. -/
def chkC (k f l : Int) : Int := if k < 0 ∨ 2 < k then 11 else if inB f = false then 15 else if l < 0 ∨ 60 < l then 2 else 0
theorem chkC_zero {k f l : Int} (h : chkC k f l = 0) : (k = 0 ∨ k = 1 ∨ k = 2) ∧ inB f = true ∧ 0 ≤ l ∧ l ≤ 60 := by
  unfold chkC at h
  split at h
  · omega
  · split at h
    · omega
    · rename_i h2
      split at h
      · omega
      · exact ⟨by omega, by simpa using h2, by omega, by omega⟩
theorem Check_any (k f l : Int) (w : World) (hL : Len w) : Calls Tryd.prog 7 #[.agg #[.int .i64 k, .int .i64 f, .int .i64 l]] w fun e w' => e = .returned (.int .i64 (chkC k f l)) ∧ Below w.heap.size w w' := by
  obtain ⟨W1, hW1⟩ : ∃ W1, W1 = w.alloc (.cells #[.int .i64 k, .int .i64 f, .int .i64 l] 27) := ⟨_, rfl⟩
  have hb0 : Below w.heap.size w W1 := by rw [hW1]; exact (Below.refl w.heap.size w).alloc (Nat.le_refl _) _
  have x2 : W1.cell? ⟨w.heap.size, 2, none⟩ = some (.int .i64 l) := by rw [hW1, World.cell?_alloc_new]; rfl
  have HI := isDay_any f W1 (hL.below hb0 (Nat.le_refl _))
  obtain ⟨R, hR⟩ : ∃ R, R = chkC k f l := ⟨_, rfl⟩
  rw [← hR]
  rcases Int.lt_or_le k 0 with h1 | h1
  · have HR : Hid (R = 11) := Lib.hid (by rw [hR]; unfold chkC; rw [if_pos (.inl h1)])
    clear hR HI
    go_enter Tryd.func7, Tryd.ntmps7
    go_wp2
    rw [← hW1]
    go_ret
    exact ⟨by rw [HR.out]; rfl, hb0⟩
  rcases Int.lt_or_le 2 k with h2 | h2
  · have HR : Hid (R = 11) := Lib.hid (by rw [hR]; unfold chkC; rw [if_pos (.inr h2)])
    clear hR HI
    go_enter Tryd.func7, Tryd.ntmps7
    go_wp2
    rw [← hW1]
    go_ret
    exact ⟨by rw [HR.out]; rfl, hb0⟩
  cases hin : inB f with
  | false =>
    rw [hin] at HI
    have HI := Lib.hid HI
    have HR : Hid (R = 15) := Lib.hid (by rw [hR]; unfold chkC; rw [if_neg (by omega), if_pos hin])
    clear hR hin
    go_enter Tryd.func7, Tryd.ntmps7
    go_wp2_with fail
    rw [← hW1]
    clear hW1
    refine (HI.out).mono ?_
    rintro e w2 ⟨rfl, hb2⟩
    have hb3 := hb0.trans (hb2.mono hb0.size)
    go_wp2
    go_ret
    exact ⟨by rw [HR.out]; rfl, hb3⟩
  | true =>
    rw [hin] at HI
    have HI := Lib.hid HI
    rcases Int.lt_or_le l 0 with h3 | h3
    · have HR : Hid (R = 2) := Lib.hid (by rw [hR]; unfold chkC; rw [if_neg (by omega), if_neg (by rw [hin]; simp), if_pos (.inl h3)])
      clear hR hin
      go_enter Tryd.func7, Tryd.ntmps7
      go_wp2_with fail
      rw [← hW1]
      clear hW1
      refine (HI.out).mono ?_
      rintro e w2 ⟨rfl, hb2⟩
      have hb3 := hb0.trans (hb2.mono hb0.size)
      have y2 := stay hb2 x2
      go_wp2
      go_ret
      exact ⟨by rw [HR.out]; rfl, hb3⟩
    rcases Int.lt_or_le 60 l with h4 | h4
    · have HR : Hid (R = 2) := Lib.hid (by rw [hR]; unfold chkC; rw [if_neg (by omega), if_neg (by rw [hin]; simp), if_pos (.inr h4)])
      clear hR hin
      go_enter Tryd.func7, Tryd.ntmps7
      go_wp2_with fail
      rw [← hW1]
      clear hW1
      refine (HI.out).mono ?_
      rintro e w2 ⟨rfl, hb2⟩
      have hb3 := hb0.trans (hb2.mono hb0.size)
      have y2 := stay hb2 x2
      go_wp2
      go_ret
      exact ⟨by rw [HR.out]; rfl, hb3⟩
    · have HR : Hid (R = 0) := Lib.hid (by rw [hR]; unfold chkC; rw [if_neg (by omega), if_neg (by rw [hin]; simp), if_neg (by omega)])
      clear hR hin
      go_enter Tryd.func7, Tryd.ntmps7
      go_wp2_with fail
      rw [← hW1]
      clear hW1
      refine (HI.out).mono ?_
      rintro e w2 ⟨rfl, hb2⟩
      have hb3 := hb0.trans (hb2.mono hb0.size)
      have y2 := stay hb2 x2
      go_wp2
      go_ret
      exact ⟨by rw [HR.out]; rfl, hb3⟩

/-- Are a span's days all in the calendar? -/
def wholeB (a b : Int) : Bool := inB a && inB (b - 1)
theorem isWhole_any (a b : Int) (w : World) (hL : Len w) (h1 : -1000000 ≤ b) (h2 : b ≤ 1000000) : Calls Tryd.prog 19 #[.agg #[.int .i64 a, .int .i64 b]] w fun e w' => e = .returned (.bool (wholeB a b)) ∧ Below w.heap.size w w' := by
  obtain ⟨W1, hW1⟩ : ∃ W1, W1 = w.alloc (.cells #[.int .i64 a, .int .i64 b] 34) := ⟨_, rfl⟩
  have hb0 : Below w.heap.size w W1 := by rw [hW1]; exact (Below.refl w.heap.size w).alloc (Nat.le_refl _) _
  have x1 : W1.cell? ⟨w.heap.size, 1, none⟩ = some (.int .i64 b) := by rw [hW1, World.cell?_alloc_new]; rfl
  have hL1 := hL.below hb0 (Nat.le_refl _)
  have HI := isDay_any a W1 hL1
  have HJ := isDay_any (b - 1)
  unfold wholeB
  cases hin : inB a with
  | false =>
    rw [hin] at HI
    have HI := Lib.hid HI
    clear hin HJ
    go_enter Tryd.func19, Tryd.ntmps19
    go_wp2_with fail
    rw [← hW1]
    clear hW1
    refine (HI.out).mono ?_
    rintro e w2 ⟨rfl, hb2⟩
    have hb3 := hb0.trans (hb2.mono hb0.size)
    go_wp2
    go_ret
    exact ⟨rfl, hb3⟩
  | true =>
    rw [hin] at HI
    have HI := Lib.hid HI
    generalize inB (b - 1) = r at HJ ⊢
    have HJ := Lib.hid HJ
    clear hin
    go_enter Tryd.func19, Tryd.ntmps19
    go_wp2_with fail
    rw [← hW1]
    clear hW1
    refine (HI.out).mono ?_
    rintro e w2 ⟨rfl, hb2⟩
    have hb3 := hb0.trans (hb2.mono hb0.size)
    have y1 := stay hb2 x1
    have hL2 := hL1.below hb2 (Nat.le_refl _)
    go_wp2_with fail
    refine (HJ.out _ hL2).mono ?_
    rintro e w4 ⟨rfl, hb4⟩
    have hb5 := hb3.trans (hb4.mono hb3.size)
    go_wp2
    go_ret
    exact ⟨rfl, hb5⟩

theorem firstDay_any (y : Int) (h1 : 1900 ≤ y) (h2 : y ≤ 2199) (w : World) (hL : Len w) : Calls Tryd.prog 17 #[.int .i64 y] w fun e w' => e = .returned (.int .i64 (jan y)) ∧ Below w.heap.size w w' := by
  have hd := dim_bd y 1
  have H := of_yes y 1 1 (okB_iff.2 ⟨h1, h2, by omega, by omega, by omega, by omega⟩) w hL
  rw [show num y 1 1 = jan y by unfold num; rw [cum_one]; omega] at H
  have H := Lib.hid H
  generalize jan y = j at *
  go_enter Tryd.func17, Tryd.ntmps17
  go_wp2_with fail
  refine (H.out).mono ?_
  rintro e w2 ⟨rfl, hb2⟩
  go_wp2
  go_ret
  exact ⟨rfl, hb2⟩
theorem lastDay_any (y : Int) (h1 : 1900 ≤ y) (h2 : y ≤ 2199) (w : World) (hL : Len w) : Calls Tryd.prog 16 #[.int .i64 y] w fun e w' => e = .returned (.int .i64 (jan (y + 1) - 1)) ∧ Below w.heap.size w w' := by
  have H := of_yes y 12 31 (okB_iff.2 ⟨h1, h2, by omega, by omega, by omega, by unfold dim lenM; simp⟩) w hL
  rw [show num y 12 31 = jan (y + 1) - 1 by
    have h3 := jan_succ y
    have h4 := cum_end y
    have h5 := cum_succ y 12 (by omega) (by omega)
    rw [show (12 : Int) + 1 = 13 from rfl, show dim y 12 = 31 from rfl] at h5
    unfold num; omega] at H
  have H := Lib.hid H
  generalize jan (y + 1) - 1 = j at *
  go_enter Tryd.func16, Tryd.ntmps16
  go_wp2_with fail
  refine (H.out).mono ?_
  rintro e w2 ⟨rfl, hb2⟩
  go_wp2
  go_ret
  exact ⟨rfl, hb2⟩


open Go Go.RowKit Go.Proofs
set_option linter.unusedVariables false

/-- What around tells. -/
def AroPost (k f d : Int) (w : World) (e : Ending) (w' : World) : Prop := ∃ a b, e = .returned (.agg #[.int .i64 a, .int .i64 b]) ∧ Blk k f a b ∧ a ≤ d ∧ d < b ∧ Below w.heap.size w w'
theorem tmod_twice {x n : Int} (hn : 0 < n) : (x.tmod n + n) % n = x % n := by
  rw [Int.add_emod_right]
  rw [Int.tmod_eq_emod]
  split
  · simp
  · rename_i h
    rw [show (n.natAbs : Int) = n by omega]
    rw [Int.sub_emod_right]
    simp

theorem tmod_bd {x n : Int} (hn : 0 < n) : -n < x.tmod n ∧ x.tmod n < n := by
  have h1 := Int.emod_nonneg x (show n ≠ 0 by omega)
  have h2 := Int.emod_lt_of_pos x hn
  rw [Int.tmod_eq_emod]
  split
  · omega
  · rename_i h
    have : x % n ≠ 0 := fun e => h (.inr (Int.dvd_of_emod_eq_zero e))
    omega

set_option maxHeartbeats 2000000 in
set_option maxRecDepth 100000 in
theorem around_any (k f l d : Int) (w : World) (hT : Tabs w) (hk : k = 0 ∨ k = 1 ∨ k = 2) (hf : inB f = true) (hd : inB d = true) :
    Calls Tryd.prog 18 #[.agg #[.int .i64 k, .int .i64 f, .int .i64 l], .int .i64 d] w (AroPost k f d w) := by
  obtain ⟨f1, f2⟩ := inB_iff.1 hf
  obtain ⟨d1, d2⟩ := inB_iff.1 hd
  obtain ⟨W2, hW2⟩ : ∃ W2, W2 = (w.alloc (.cells #[.int .i64 k, .int .i64 f, .int .i64 l] 27)).alloc (.cells #[.int .i64 0, .int .i64 0] 34) := ⟨_, rfl⟩
  have hza : (w.alloc (.cells #[.int .i64 k, .int .i64 f, .int .i64 l] 27)).heap.size = w.heap.size + 1 := by simp
  have hb0 : Below w.heap.size w W2 := by rw [hW2]; exact ((Below.refl w.heap.size w).alloc (Nat.le_refl _) _).alloc (by simp) _
  have x0 : W2.cell? ⟨w.heap.size, 0, none⟩ = some (.int .i64 k) := by rw [hW2, World.cell?_alloc_lt _ _ _ (by rw [hza]; show w.heap.size < _; omega), World.cell?_alloc_new]; rfl
  have x1 : W2.cell? ⟨w.heap.size, 1, none⟩ = some (.int .i64 f) := by rw [hW2, World.cell?_alloc_lt _ _ _ (by rw [hza]; show w.heap.size < _; omega), World.cell?_alloc_new]; rfl
  have r0 : W2.cell? ⟨w.heap.size + 1, 0, none⟩ = some (.int .i64 0) := by rw [hW2, ← hza, World.cell?_alloc_new]; rfl
  have r1 : W2.cell? ⟨w.heap.size + 1, 1, none⟩ = some (.int .i64 0) := by rw [hW2, ← hza, World.cell?_alloc_new]; rfl
  have g0 : W2.frozen? ⟨w.heap.size + 1, 0, none⟩ = false := by rw [hW2, ← hza]; simp
  have g1 : W2.frozen? ⟨w.heap.size + 1, 1, none⟩ = false := by rw [hW2, ← hza]; simp
  have hg : w.heap.size + 1 < W2.heap.size := by rw [hW2]; simp
  have hT2 := hT.stay hb0
  obtain ⟨p0, p1, p2⟩ := hT2.2
  have hz := hb0.size
  clear hza
  rcases hk with rfl | hk
  · obtain ⟨y, m, e, ho, hn⟩ := date_of d d1 d2
    obtain ⟨HB, hB1, hB2⟩ := Blk.month (f := f) ho
    have HTo := fun W hL => to_yes y m e d ho hn W hL
    obtain ⟨y1, y2, m1, m2, e1, e2⟩ := okB_iff.1 ho
    have HM := fun W hL => md_any y m W hL
    rw [mdV_in y1 y2 m1 m2] at HM
    have hdb := dim_bd y m
    have hcs := cum_succ y m m1 m2
    have HN : Hid (d - (e - 1) = jan y + cum y m) := Lib.hid (by unfold num at hn; omega)
    have HN2 : Hid (d - (e - 1) + dim y m = jan y + cum y (m + 1)) := Lib.hid (by unfold num at hn; omega)
    rw [hn] at hB1 hB2
    have HBB : Hid (AroPost 0 f d w (.returned (.agg #[.int .i64 (d - (e - 1)), .int .i64 (d - (e - 1) + dim y m)])) w) := Lib.hid ⟨_, _, rfl, by rw [HN2.out, HN.out]; exact HB, by rw [HN.out]; exact hB1, by rw [HN2.out]; exact hB2, Below.refl _ _⟩
    have HTo := Lib.hid HTo
    have HM := Lib.hid HM
    have hL2 := Lib.hid hT2.1
    generalize dim y m = D at *
    clear ho hn HB hB1 hB2 hcs HN HN2 hT hT2 hf hd p1 p2
    rw [hW2] at p0
    go_enter Tryd.func18, Tryd.ntmps18
    go_wp2_with fail
    rw [← hW2]
    clear hW2
    refine (HTo.out _ hL2.out).mono ?_
    rintro e' w3 ⟨rfl, hb3⟩
    obtain ⟨W4, hW4⟩ : ∃ W4, W4 = w3.alloc (.cells #[.int .i64 y, .int .i64 m, .int .i64 e] 77) := ⟨_, rfl⟩
    have hb4 : Below w3.heap.size w3 W4 := by rw [hW4]; exact (Below.refl w3.heap.size w3).alloc (Nat.le_refl _) _
    have t2 : W4.cell? ⟨w3.heap.size, 2, none⟩ = some (.int .i64 e) := by rw [hW4, World.cell?_alloc_new]; rfl
    have hb24 := hb3.trans (hb4.mono hb3.size)
    have hL4 := hL2.out.below hb24 (Nat.le_refl _)
    have s0 := stay hb24 r0
    have s1 := stay hb24 r1
    have k0 := (hb24.frozen (p := ⟨w.heap.size + 1, 0, none⟩) hg).trans g0
    have k1 := (hb24.frozen (p := ⟨w.heap.size + 1, 1, none⟩) hg).trans g1
    have hb5 := hb0.trans (hb24.mono hz)
    clear hb3 hb4 hb24 x0 x1 r0 r1 g0 g1 p0 hb0
    go_wp2_with fail
    rw [← hW4]
    clear hW4
    refine (HM.out _ hL4).mono ?_
    rintro e' w' ⟨rfl, rfl⟩
    have hb6 := (hb5.setCell (p := ⟨w.heap.size + 1, 0, none⟩) (by show w.heap.size ≤ w.heap.size + 1; omega) (.int .i64 (d - (e - 1)))).setCell (p := ⟨w.heap.size + 1, 1, none⟩) (by show w.heap.size ≤ w.heap.size + 1; omega) (.int .i64 (d - (e - 1) + D))
    have q0 : ((W4.setCell ⟨w.heap.size + 1, 0, none⟩ (.int .i64 (d - (e - 1)))).setCell ⟨w.heap.size + 1, 1, none⟩ (.int .i64 (d - (e - 1) + D))).cell? ⟨w.heap.size + 1, 0, none⟩ = some (.int .i64 (d - (e - 1))) := by
      rw [World.cell?_setCell_other _ _ _ _ (fun e => by injection e with _ e; omega)]
      exact World.cell?_setCell_same _ _ _ s0
    have q1 : ((W4.setCell ⟨w.heap.size + 1, 0, none⟩ (.int .i64 (d - (e - 1)))).setCell ⟨w.heap.size + 1, 1, none⟩ (.int .i64 (d - (e - 1) + D))).cell? ⟨w.heap.size + 1, 1, none⟩ = some (.int .i64 (d - (e - 1) + D)) :=
      World.cell?_setCell_same _ _ _ ((World.cell?_setCell_other _ _ _ _ (fun e => by injection e with _ e; omega)).trans s1)
    go_wp2
    refine bodyPost_ret (v := .agg #[.int .i64 (d - (e - 1)), .int .i64 (d - (e - 1) + D)]) (by simp [results, Tryd.results18, go_sem, q0, q1]) rfl ?_
    obtain ⟨a, b, h1, h2, h3, h4, -⟩ := HBB.out
    exact ⟨a, b, h1, h2, h3, h4, hb6⟩
  · obtain ⟨HB, hB1, hB2⟩ := Blk.days (f := f) (d := d) hk
    have hk1 : 1 ≤ k := by omega
    have hk2 : k ≤ 2 := by omega
    have HTM : Hid (((d - f).tmod (14 * k) + 14 * k) % (14 * k) = (d - f) % (14 * k)) := Lib.hid (tmod_twice (by omega))
    have ht1 : -28 ≤ (d - f).tmod (14 * k) ∧ (d - f).tmod (14 * k) ≤ 28 ∧ 0 ≤ (d - f).tmod (14 * k) + 14 * k := by
      have := tmod_bd (x := d - f) (n := 14 * k) (by omega)
      omega
    obtain ⟨t, ht⟩ : ∃ t, (d - f).tmod (14 * k) = t := ⟨_, rfl⟩
    have hpk : W2.cell? ⟨0, k.toNat, none⟩ = some (.int .i64 (14 * k)) := by
      rcases hk with rfl | rfl
      · exact p1
      · exact p2
    rw [ht] at HTM ht1
    have hN1 : 0 ≤ (d - f) % (14 * k) := by rcases hk with rfl | rfl <;> omega
    have hN2 : (d - f) % (14 * k) ≤ 28 := by rcases hk with rfl | rfl <;> omega
    obtain ⟨n, hn⟩ : ∃ n, 14 * k = n := ⟨_, rfl⟩
    rw [hn] at HB hB1 hB2 HTM ht1 ht hpk hN1 hN2
    have hn14 : 14 ≤ n := by omega
    have hn28 : n ≤ 28 := by omega
    obtain ⟨u, hu⟩ : ∃ u, (t + n) % n = u := ⟨_, rfl⟩
    have hu2 : (d - f) % n = u := by rw [← hu]; exact HTM.out.symm
    rw [hu2] at HB hB1 hB2 hN1 hN2
    have hpost : Hid (AroPost k f d w (.returned (.agg #[.int .i64 (d - u), .int .i64 (d - u + n)])) w) := Lib.hid ⟨_, _, rfl, HB, hB1, hB2, Below.refl _ _⟩
    have hne : (n == 0) = false := by simp; omega
    obtain ⟨b1, b2, b3⟩ := ht1
    clear HTM HB hB1 hB2 hu2 hn hk hT hT2 hf hd p0 p1 p2
    have hk3 : k < 3 := by omega
    have hk0 : 0 ≤ k := by omega
    rw [hW2] at hpk x0 x1 r0 r1 g0 g1
    clear hW2 hb0 hz hg
    go_enter Tryd.func18, Tryd.ntmps18
    go_wp2
    refine bodyPost_ret (v := .agg #[.int .i64 (d - u), .int .i64 (d - u + n)]) (by simp [results, Tryd.results18, go_sem]) rfl ?_
    obtain ⟨a, b, h1, h2, h3, h4, -⟩ := hpost.out
    exact ⟨a, b, h1, h2, h3, h4, ((Below.refl _ _).alloc (Nat.le_refl _) _).alloc (by simp) _⟩

/-- When a period is paid. -/
def payV (b l : Int) : Int := min (b - 1 + l) 84005
set_option maxHeartbeats 2000000 in
set_option maxRecDepth 100000 in
theorem pay_any (k f l a b : Int) (w : World) (hL : Len w) (h1 : -1000000 ≤ b) (h2 : b ≤ 1000000) (h3 : 0 ≤ l) (h4 : l ≤ 60) :
    Calls Tryd.prog 20 #[.agg #[.int .i64 k, .int .i64 f, .int .i64 l], .agg #[.int .i64 a, .int .i64 b]] w fun e w' => e = .returned (.int .i64 (payV b l)) ∧ Below w.heap.size w w' := by
  obtain ⟨W2, hW2⟩ : ∃ W2, W2 = (w.alloc (.cells #[.int .i64 k, .int .i64 f, .int .i64 l] 27)).alloc (.cells #[.int .i64 a, .int .i64 b] 34) := ⟨_, rfl⟩
  have hza : (w.alloc (.cells #[.int .i64 k, .int .i64 f, .int .i64 l] 27)).heap.size = w.heap.size + 1 := by simp
  have hb0 : Below w.heap.size w W2 := by rw [hW2]; exact ((Below.refl w.heap.size w).alloc (Nat.le_refl _) _).alloc (by simp) _
  have x2 : W2.cell? ⟨w.heap.size, 2, none⟩ = some (.int .i64 l) := by rw [hW2, World.cell?_alloc_lt _ _ _ (by rw [hza]; show w.heap.size < _; omega), World.cell?_alloc_new]; rfl
  have x1 : W2.cell? ⟨w.heap.size + 1, 1, none⟩ = some (.int .i64 b) := by rw [hW2, ← hza, World.cell?_alloc_new]; rfl
  have hL2 := Lib.hid (hL.below hb0 (Nat.le_refl _))
  have HK : Hid (∀ w', Below W2.heap.size W2 w' → (w'.cell? ⟨w.heap.size, 2, none⟩ = some (.int .i64 l) ∧ w'.cell? ⟨w.heap.size + 1, 1, none⟩ = some (.int .i64 b)) ∧ Below W2.heap.size W2 w') := Lib.hid (fun w' h => ⟨⟨stay h x2, stay h x1⟩, h⟩)
  have HLA : Hid (∀ W, Len W → Calls Tryd.prog 16 #[.int .i64 2199] W fun e w' => e = .returned (.int .i64 84005) ∧ Below W.heap.size W w') := Lib.hid (fun W hL => by
    have := lastDay_any 2199 (by omega) (by omega) W hL
    rwa [show jan (2199 + 1) - 1 = 84005 by decide] at this)
  have HV : Hid (payV b l = min (b - 1 + l) 84005) := Lib.hid rfl
  generalize payV b l = V at *
  have i1 : IntKind.i64.wrap (b - 1) = b - 1 := IntWalk.i64_in _ (by omega)
  have i2 : IntKind.i64.wrap (b - 1 + l) = b - 1 + l := IntWalk.i64_in _ (by omega)
  clear hza h1 h2 h3 h4
  go_enter Tryd.func20, Tryd.ntmps20
  go_wp2
  rw [← hW2]
  clear hW2
  go_region_held3 (fun w' => (w'.cell? ⟨w.heap.size, 2, none⟩ = some (.int .i64 l) ∧ w'.cell? ⟨w.heap.size + 1, 1, none⟩ = some (.int .i64 b)) ∧ Below W2.heap.size W2 w') (first | exact HK.out _ kb_drew | exact HK.out _ (by assumption)) (first | (go_at_call 16; refine (HLA.out _ (hL2.out.below (And.right (by assumption)) (Nat.le_refl _))).mono ?_; rintro e wx ⟨rfl, hbx⟩; have hkx : Below W2.heap.size W2 wx := kb_call hbx (by assumption)))
  go_wp2
  go_ret
  exact ⟨by rw [HV.out]; rfl, hb0.trans (Below.mono (by assumption) hb0.size)⟩

end Go.Proofs.YtogdiiengbmiiaaDoor.Pe
