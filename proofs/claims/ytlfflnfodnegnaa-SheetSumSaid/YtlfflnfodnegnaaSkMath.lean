/-
  What is proved: plain facts on entries of hours (as triples of integers): what is left of a day, what is over, week by week, and what sums of them come to. Conditions: none.
-/
namespace Go.Proofs.Ytlfflnfodnegnaa

abbrev En := Int × Int × Int
abbrev Hr := Int × Int × Int
/-- A day is in the calendar. -/
def inB (n : Int) : Bool := decide (-25567 ≤ n) && decide (n ≤ 84005)
theorem inB_yes {n : Int} (h1 : -25567 ≤ n) (h2 : n ≤ 84005) : inB n = true := by simp [inB, h1, h2]
theorem inB_no {n : Int} (h : n < -25567 ∨ 84005 < n) : inB n = false := by
  simp only [inB, Bool.and_eq_false_iff, decide_eq_false_iff_not]; omega
theorem inB_iff {n : Int} : inB n = true ↔ -25567 ≤ n ∧ n ≤ 84005 := by simp [inB]
/-- A day's weekday. -/
def wkV (n : Int) : Int := if inB n = true then (n + 25567) % 7 else -1
/-- The Monday of a day's week. -/
def mon (d : Int) : Int := d - wkV d
theorem mon_at {d : Int} (h : inB d = true) : mon d = d - (d + 25567) % 7 := by unfold mon wkV; rw [if_pos h]
theorem mon_le {d : Int} (h : inB d = true) : mon d ≤ d ∧ d ≤ mon d + 6 := by rw [mon_at h]; omega
theorem mon_bd {d : Int} (h : inB d = true) : -25573 ≤ mon d ∧ mon d ≤ 84005 := by have := inB_iff.1 h; have := mon_le h; omega
theorem mon_mono {d e : Int} (h : inB d = true) (k : inB e = true) (l : d ≤ e) : mon d ≤ mon e := by rw [mon_at h, mon_at k]; omega
theorem mon_near {d e : Int} (h : inB d = true) (k : inB e = true) (l : mon d = mon e) : e - 7 < d ∧ d < e + 7 := by rw [mon_at h, mon_at k] at l; omega

/-- The lesser of two; the greater of nothing and a number. -/
def mn (a b : Int) : Int := min a b
def ps (a : Int) : Int := max 0 a
theorem mn_cases (a b : Int) : (a ≤ b ∧ mn a b = a) ∨ (b < a ∧ mn a b = b) := by unfold mn; omega
theorem ps_cases (a : Int) : (0 ≤ a ∧ ps a = a) ∨ (a < 0 ∧ ps a = 0) := by unfold ps; omega

/-- What is left of a day, by the limit of a day. -/
def lft (D : Int) (e : En) : Int := mn e.2.1 D
/-- How many of what is left pass the week's limit, if A was left ahead of it in its week. -/
def psg (D W A : Int) (e : En) : Int := mn (lft D e) (ps (A + lft D e - W))
/-- The day's hours. -/
def hrs (D W A : Int) (e : En) : Hr := (lft D e - psg D W A e, e.2.1 - lft D e + psg D W A e, e.2.2)
def addH (a b : Hr) : Hr := (a.1 + b.1, a.2.1 + b.2.1, a.2.2 + b.2.2)
abbrev St := Int → Int × Hr
def put (D W : Int) (S : St) (e : En) : St := fun m => if m = mon e.1 then ((S m).1 + lft D e, addH (S m).2 (hrs D W (S m).1 e)) else S m
/-- The weeks' sums behind the first i entries. -/
def stt (D W : Int) (f : Nat → En) : Nat → St
  | 0 => fun _ => (0, 0, 0, 0)
  | i + 1 => put D W (stt D W f i) (f i)
/-- The hours of entry i. -/
def hrI (D W : Int) (f : Nat → En) (i : Nat) : Hr := hrs D W (stt D W f i (mon (f i).1)).1 (f i)
/-- The hours of those of the first i entries whose days lie in a span. -/
def sumP (D W s t : Int) (f : Nat → En) : Nat → Hr
  | 0 => (0, 0, 0)
  | i + 1 => if s ≤ (f i).1 ∧ (f i).1 < t then addH (sumP D W s t f i) (hrI D W f i) else sumP D W s t f i

theorem sumP_succ (D W s t : Int) (f : Nat → En) (i : Nat) : sumP D W s t f (i + 1) = if s ≤ (f i).1 ∧ (f i).1 < t then addH (sumP D W s t f i) (hrI D W f i) else sumP D W s t f i := rfl
theorem stt_succ (D W : Int) (f : Nat → En) (i : Nat) : stt D W f (i + 1) = put D W (stt D W f i) (f i) := rfl

/-- What is wrong with entry i, with the first i entries, with limits. -/
def errE (f : Nat → En) (i : Nat) : Int := if inB (f i).1 = false then 15 else if 0 < i ∧ (f i).1 ≤ (f (i - 1)).1 then 8 else if (f i).2.1 < 0 ∨ 1440 < (f i).2.1 then 2 else if (f i).2.2 < 0 ∨ (f i).2.1 < (f i).2.2 then 2 else 0
def errP (f : Nat → En) : Nat → Int
  | 0 => 0
  | i + 1 => if errP f i = 0 then errE f i else errP f i
def errL (D W : Int) : Int := if D < 0 ∨ 1440 < D ∨ W < 0 ∨ 10080 < W then 2 else 0
def chk (f : Nat → En) (n : Nat) (D W : Int) : Int := if 4096 < n then 5 else if errP f n = 0 then errL D W else errP f n
/-- The first n entries are right. -/
def Rt (f : Nat → En) (n : Nat) : Prop := (∀ i, i < n → inB (f i).1 = true ∧ 0 ≤ (f i).2.1 ∧ (f i).2.1 ≤ 1440 ∧ 0 ≤ (f i).2.2 ∧ (f i).2.2 ≤ (f i).2.1) ∧ ∀ i, i + 1 < n → (f i).1 < (f (i + 1)).1
def Lim (D W : Int) : Prop := 0 ≤ D ∧ D ≤ 1440 ∧ 0 ≤ W ∧ W ≤ 10080
theorem errL_ok {D W : Int} : errL D W = 0 ↔ Lim D W := by unfold errL Lim; split <;> omega
theorem errE_ok {f : Nat → En} {i : Nat} : errE f i = 0 ↔ (inB (f i).1 = true ∧ 0 ≤ (f i).2.1 ∧ (f i).2.1 ≤ 1440 ∧ 0 ≤ (f i).2.2 ∧ (f i).2.2 ≤ (f i).2.1) ∧ (0 < i → (f (i - 1)).1 < (f i).1) := by
  unfold errE
  cases inB (f i).1
  · simp
  · simp only [Bool.true_eq_false, if_false, true_and]
    split
    · omega
    · split
      · omega
      · split <;> omega
theorem errP_ok {f : Nat → En} : ∀ n, errP f n = 0 ↔ ∀ i, i < n → errE f i = 0
  | 0 => ⟨fun _ i h => by omega, fun _ => rfl⟩
  | n + 1 => by
    unfold errP
    have ih := errP_ok (f := f) n
    by_cases h : errP f n = 0
    · rw [if_pos h]
      refine ⟨fun h2 i hi => ?_, fun h2 => h2 n (by omega)⟩
      by_cases e : i = n
      · rw [e]; exact h2
      · exact ih.1 h i (by omega)
    · rw [if_neg h]
      exact ⟨fun h2 => absurd h2 h, fun h2 => absurd (ih.2 fun i hi => h2 i (by omega)) h⟩
theorem errP_stop {f : Nat → En} {i n : Nat} (h : errP f i = 0) (hi : i < n) (h2 : errE f i ≠ 0) : errP f n = errE f i := by
  have key : ∀ k, errP f (i + 1 + k) = errE f i := fun k => by
    induction k with
    | zero => show errP f (i + 1) = _; unfold errP; rw [if_pos h]
    | succ k ih => show errP f (i + 1 + k + 1) = _; unfold errP; rw [if_neg (by rw [ih]; exact h2)]; exact ih
  have := key (n - (i + 1))
  rwa [show i + 1 + (n - (i + 1)) = n by omega] at this
theorem rt_iff {f : Nat → En} {n : Nat} : errP f n = 0 ↔ Rt f n := by
  rw [errP_ok]
  constructor
  · intro h
    refine ⟨fun i hi => (errE_ok.1 (h i hi)).1, fun i hi => ?_⟩
    have := (errE_ok.1 (h (i + 1) hi)).2 (by omega)
    rwa [Nat.add_sub_cancel] at this
  · rintro ⟨h1, h2⟩ i hi
    refine errE_ok.2 ⟨h1 i hi, fun h0 => ?_⟩
    have := h2 (i - 1) (by omega)
    rwa [show i - 1 + 1 = i by omega] at this
theorem chk_ok {f : Nat → En} {n : Nat} {D W : Int} : chk f n D W = 0 ↔ n ≤ 4096 ∧ Rt f n ∧ Lim D W := by
  unfold chk
  rw [← rt_iff, ← errL_ok]
  split
  · omega
  · split <;> rename_i h1 h2
    · constructor
      · intro h; exact ⟨by omega, h2, h⟩
      · intro h; exact h.2.2
    · constructor
      · intro h; exact absurd h h2
      · intro h; exact absurd h.2.1 h2
theorem Rt.lt {f : Nat → En} {n : Nat} (h : Rt f n) : ∀ {i j : Nat}, i < j → j < n → (f i).1 < (f j).1 := by
  intro i j hij
  induction j with
  | zero => omega
  | succ j ih =>
    intro hj
    have a := h.2 j hj
    by_cases e : i = j
    · rw [e]; exact a
    · have := ih (by omega) (by omega); omega
theorem Rt.less {f : Nat → En} {n k : Nat} (h : Rt f n) (hk : k ≤ n) : Rt f k := ⟨fun i hi => h.1 i (by omega), fun i hi => h.2 i (by omega)⟩

/-- Plain minutes, as a difference. -/
theorem plain_is {D W A : Int} {e : En} (hl : 0 ≤ lft D e) : (hrs D W A e).1 = mn W (A + lft D e) - mn W A := by
  unfold hrs psg
  simp only
  generalize lft D e = l at *
  rcases ps_cases (A + l - W) with ⟨a, b⟩ | ⟨a, b⟩ <;> rw [b] <;> rcases mn_cases W (A + l) with ⟨c, d⟩ | ⟨c, d⟩ <;> rw [d] <;> rcases mn_cases W A with ⟨c', d'⟩ | ⟨c', d'⟩ <;> rw [d'] <;> unfold mn <;> omega
theorem lft_bd {D : Int} {e : En} (hD : 0 ≤ D) (hm : 0 ≤ e.2.1) : 0 ≤ lft D e ∧ lft D e ≤ e.2.1 ∧ lft D e ≤ D := by
  unfold lft; rcases mn_cases e.2.1 D with ⟨a, b⟩ | ⟨a, b⟩ <;> rw [b] <;> omega
theorem psg_bd {D W A : Int} {e : En} (hl : 0 ≤ lft D e) : 0 ≤ psg D W A e ∧ psg D W A e ≤ lft D e := by
  unfold psg
  generalize lft D e = l at *
  rcases ps_cases (A + l - W) with ⟨a, b⟩ | ⟨a, b⟩ <;> rw [b] <;> unfold mn <;> omega
theorem hrs_bd {D W A : Int} {e : En} (hD : 0 ≤ D) (h0 : 0 ≤ e.2.1) : 0 ≤ (hrs D W A e).1 ∧ 0 ≤ (hrs D W A e).2.1 ∧ (hrs D W A e).1 + (hrs D W A e).2.1 = e.2.1 ∧ (hrs D W A e).2.2 = e.2.2 := by
  obtain ⟨a, b, c⟩ := lft_bd hD h0
  obtain ⟨d, g⟩ := psg_bd (W := W) (A := A) a
  refine ⟨?_, ?_, ?_, rfl⟩
  · show 0 ≤ lft D e - psg D W A e
    omega
  · show 0 ≤ e.2.1 - lft D e + psg D W A e
    omega
  · show lft D e - psg D W A e + (e.2.1 - lft D e + psg D W A e) = e.2.1
    omega

section
variable {f : Nat → En} {n : Nat} {D W : Int}
theorem stt_bd (h : Rt f n) (hL : Lim D W) : ∀ i, i ≤ n → ∀ m, (0 ≤ (stt D W f i m).1 ∧ (stt D W f i m).1 ≤ 1440 * i) ∧ (0 ≤ (stt D W f i m).2.1 ∧ (stt D W f i m).2.1 ≤ 1440 * i) ∧ (0 ≤ (stt D W f i m).2.2.1 ∧ (stt D W f i m).2.2.1 ≤ 1440 * i) ∧ (0 ≤ (stt D W f i m).2.2.2 ∧ (stt D W f i m).2.2.2 ≤ 1440 * i)
  | 0, _, m => by simp [stt]
  | i + 1, hi, m => by
    have ih := stt_bd h hL i (by omega) m
    obtain ⟨-, h0, h1, h2, h3⟩ := h.1 i (by omega)
    obtain ⟨a, b, c⟩ := lft_bd hL.1 h0
    obtain ⟨p, q, r, s⟩ := hrs_bd (W := W) (A := (stt D W f i m).1) hL.1 h0
    rw [show stt D W f (i + 1) m = put D W (stt D W f i) (f i) m from rfl]
    unfold put
    split
    · simp only [addH]; omega
    · omega
theorem sumP_bd (h : Rt f n) (hL : Lim D W) (s t : Int) : ∀ i, i ≤ n → (0 ≤ (sumP D W s t f i).1 ∧ (sumP D W s t f i).1 ≤ 1440 * i) ∧ (0 ≤ (sumP D W s t f i).2.1 ∧ (sumP D W s t f i).2.1 ≤ 1440 * i) ∧ (0 ≤ (sumP D W s t f i).2.2 ∧ (sumP D W s t f i).2.2 ≤ 1440 * i)
  | 0, _ => by simp [sumP]
  | i + 1, hi => by
    have ih := sumP_bd h hL s t i (by omega)
    obtain ⟨-, h0, h1, h2, h3⟩ := h.1 i (by omega)
    obtain ⟨p, q, r, s'⟩ := hrs_bd (W := W) (A := (stt D W f i (mon (f i).1)).1) hL.1 h0
    unfold sumP hrI
    split
    · simp only [addH]; omega
    · omega
/-- Behind the span's last day nothing comes. -/
theorem sumP_end (h : Rt f n) (s t : Int) {i : Nat} (hi : i < n) (ht : t ≤ (f i).1) : ∀ k, i + k ≤ n → sumP D W s t f (i + k) = sumP D W s t f i
  | 0, _ => rfl
  | k + 1, hk => by
    have ih := sumP_end h s t hi ht k (by omega)
    rw [← Nat.add_assoc, sumP_succ, if_neg, ih]
    rintro ⟨-, b⟩
    by_cases e : k = 0
    · rw [e] at b; simp at b; omega
    · have := h.lt (i := i) (j := i + k) (by omega) (by omega); omega
theorem sumP_stop (h : Rt f n) (s t : Int) {i : Nat} (hi : i < n) (ht : t ≤ (f i).1) : sumP D W s t f n = sumP D W s t f i := by
  have := sumP_end (D := D) (W := W) h s t hi ht (n - i) (by omega)
  rwa [show i + (n - i) = n by omega] at this
/-- A week of which no day has come has nothing. -/
theorem stt_none (m : Int) : ∀ i, (∀ j, j < i → mon (f j).1 ≠ m) → stt D W f i m = (0, 0, 0, 0)
  | 0, _ => rfl
  | i + 1, hi => by
    show put D W (stt D W f i) (f i) m = _
    unfold put
    rw [if_neg (fun e => hi i (by omega) e.symm)]
    exact stt_none m i fun j hj => hi j (by omega)
theorem stt_congr {g : Nat → En} : ∀ i, (∀ j, j < i → f j = g j) → stt D W f i = stt D W g i
  | 0, _ => rfl
  | i + 1, hi => by
    show put D W (stt D W f i) (f i) = put D W (stt D W g i) (g i)
    rw [stt_congr i fun j hj => hi j (by omega), hi i (by omega)]
theorem sumP_congr {g : Nat → En} (s t : Int) : ∀ i, (∀ j, j < i → f j = g j) → sumP D W s t f i = sumP D W s t g i
  | 0, _ => rfl
  | i + 1, hi => by
    unfold sumP hrI
    rw [sumP_congr s t i fun j hj => hi j (by omega), stt_congr i fun j hj => hi j (by omega), hi i (by omega)]
end

end Go.Proofs.Ytlfflnfodnegnaa
