/-
  What is proved: plain facts on weeks and free days: what is wrong first, the minutes on a day, and sums over the days of a span. Conditions: none.
-/
import Derived.Test.YtbgilplaefdhbaaDoorDkA
namespace Go.Proofs.YtbgilplaefdhbaaDoor

/-- The first of some numbers that is not 0. -/
def fnz (b : Nat → Int) : Nat → Int
  | 0 => 0
  | k + 1 => if fnz b k = 0 then b k else fnz b k
theorem fnz_up {b : Nat → Int} {k : Nat} (h : fnz b k ≠ 0) : ∀ j : Nat, fnz b (k + j) = fnz b k
  | 0 => rfl
  | j + 1 => by
    have ih := fnz_up h j
    show (if fnz b (k + j) = 0 then b (k + j) else fnz b (k + j)) = _
    rw [ih, if_neg h]
theorem fnz_stop {b : Nat → Int} {k n : Nat} (h0 : fnz b k = 0) (h1 : b k ≠ 0) (hk : k < n) : fnz b n = b k := by
  have e : fnz b (k + 1) = b k := by show (if fnz b k = 0 then b k else fnz b k) = _; rw [if_pos h0]
  have := fnz_up (b := b) (k := k + 1) (by rw [e]; exact h1) (n - (k + 1))
  rw [show k + 1 + (n - (k + 1)) = n by omega] at this
  rw [this, e]
theorem fnz_next {b : Nat → Int} {k : Nat} (h0 : fnz b k = 0) (h1 : b k = 0) : fnz b (k + 1) = 0 := by
  show (if fnz b k = 0 then b k else fnz b k) = _; rw [if_pos h0, h1]
theorem fnz_none {b : Nat → Int} : ∀ {n : Nat}, fnz b n = 0 → ∀ i, i < n → b i = 0
  | 0, _, i, hi => absurd hi (Nat.not_lt_zero _)
  | n + 1, h, i, hi => by
    have h' : (if fnz b n = 0 then b n else fnz b n) = 0 := h
    split at h'
    · rename_i h0
      rcases Nat.lt_or_ge i n with hlt | hge
      · exact fnz_none h0 i hlt
      · rw [show i = n by omega]; exact h'
    · contradiction
theorem fnz_all {b : Nat → Int} : ∀ {n : Nat}, (∀ i, i < n → b i = 0) → fnz b n = 0
  | 0, _ => rfl
  | n + 1, h => fnz_next (fnz_all fun i hi => h i (by omega)) (h n (by omega))

/-- A weekday's minutes are wrong. -/
def wkBad (q : Nat → Int) (i : Nat) : Int := if q i < 0 ∨ 1440 < q i then 2 else 0
def chkW (q : Nat → Int) : Int := fnz (wkBad q) 7
theorem wkBad_or (q : Nat → Int) (i : Nat) : wkBad q i = 0 ∧ 0 ≤ q i ∧ q i ≤ 1440 ∨ wkBad q i = 2 ∧ (q i < 0 ∨ 1440 < q i) := by
  unfold wkBad; split <;> omega
theorem fnz_two {q : Nat → Int} : ∀ n, fnz (wkBad q) n = 0 ∨ fnz (wkBad q) n = 2
  | 0 => .inl rfl
  | n + 1 => by
    show (if fnz (wkBad q) n = 0 then wkBad q n else fnz (wkBad q) n) = 0 ∨ (if fnz (wkBad q) n = 0 then wkBad q n else fnz (wkBad q) n) = 2
    split
    · rcases wkBad_or q n with h | h <;> simp [h.1]
    · rcases fnz_two (q := q) n with h | h
      · contradiction
      · exact .inr h
theorem chkW_or (q : Nat → Int) : chkW q = 0 ∨ chkW q = 2 := fnz_two 7
theorem chkW_bd {q : Nat → Int} (h : chkW q = 0) : ∀ i, i < 7 → 0 ≤ q i ∧ q i ≤ 1440 := fun i hi => by
  have := fnz_none h i hi
  rcases wkBad_or q i with h | h
  · exact h.2
  · omega
theorem chkW_zero {q : Nat → Int} (h : ∀ i, i < 7 → 0 ≤ q i ∧ q i ≤ 1440) : chkW q = 0 := fnz_all fun i hi => by
  have := h i hi
  rcases wkBad_or q i with h | h
  · exact h.1
  · omega
/-- A free day is wrong. -/
def frBad (F : List Int) (i : Nat) : Int := if inB (F.getD i 0) = false then 15 else if 0 < i ∧ F.getD i 0 ≤ F.getD (i - 1) 0 then 8 else 0
def chkF (F : List Int) : Int := if 4096 < F.length then 5 else fnz (frBad F) F.length
def chk (q : Nat → Int) (F : List Int) : Int := if chkW q = 0 then chkF F else 2
theorem chk_parts {q : Nat → Int} {F : List Int} (h : chk q F = 0) : chkW q = 0 ∧ F.length ≤ 4096 ∧ fnz (frBad F) F.length = 0 := by
  unfold chk at h
  split at h
  · rename_i h1
    unfold chkF at h
    split at h
    · omega
    · exact ⟨h1, by omega, h⟩
  · omega
theorem chk_mk {q : Nat → Int} {F : List Int} (h1 : chkW q = 0) (h2 : F.length ≤ 4096) (h3 : fnz (frBad F) F.length = 0) : chk q F = 0 := by
  unfold chk chkF
  rw [if_pos h1, if_neg (by omega), h3]
theorem frBad_none {F : List Int} (h : fnz (frBad F) F.length = 0) : ∀ i, i < F.length → inB (F.getD i 0) = true ∧ (0 < i → F.getD (i - 1) 0 < F.getD i 0) := fun i hi => by
  have := fnz_none h i hi
  unfold frBad at this
  split at this
  · omega
  · rename_i h1
    split at this
    · omega
    · rename_i h2
      refine ⟨by simpa using h1, fun h0 => ?_⟩
      rcases Int.lt_or_le (F.getD (i - 1) 0) (F.getD i 0) with h3 | h3
      · exact h3
      · exact absurd ⟨h0, h3⟩ h2
theorem frBad_all {F : List Int} (h : ∀ i, i < F.length → inB (F.getD i 0) = true ∧ (0 < i → F.getD (i - 1) 0 < F.getD i 0)) : fnz (frBad F) F.length = 0 := fnz_all fun i hi => by
  obtain ⟨a, b⟩ := h i hi
  unfold frBad
  rw [if_neg (by rw [a]; simp), if_neg]
  rintro ⟨h0, h1⟩
  have := b h0
  omega
theorem rise_at {F : List Int} (h : fnz (frBad F) F.length = 0) : ∀ k a, a + k < F.length → 0 < k → F.getD a 0 < F.getD (a + k) 0
  | 0, _, _, h0 => absurd h0 (Nat.lt_irrefl _)
  | k + 1, a, hb, _ => by
    have h1 := (frBad_none h (a + (k + 1)) hb).2 (by omega)
    rw [show a + (k + 1) - 1 = a + k by omega] at h1
    rcases Nat.eq_zero_or_pos k with rfl | hk
    · exact h1
    · have := rise_at h k a (by omega) hk
      omega
theorem rise_lt {F : List Int} (h : fnz (frBad F) F.length = 0) {a b : Nat} (hab : a < b) (hb : b < F.length) : F.getD a 0 < F.getD b 0 := by
  have := rise_at h (b - a) a (by omega) (by omega)
  rwa [show a + (b - a) = b by omega] at this
theorem getD_ix (F : List Int) {i : Nat} (h : i < F.length) : F.getD i 0 = F[i] := by simp [List.getD, h]
theorem mem_at {F : List Int} {d : Int} : d ∈ F ↔ ∃ i, i < F.length ∧ F.getD i 0 = d := by
  rw [List.mem_iff_getElem]
  constructor
  · rintro ⟨i, hi, h⟩; exact ⟨i, hi, by rw [getD_ix F hi]; exact h⟩
  · rintro ⟨i, hi, h⟩; exact ⟨i, hi, by rw [getD_ix F hi] at h; exact h⟩
theorem mem_take {F : List Int} {k : Nat} (hk : k ≤ F.length) {d : Int} : d ∈ F.take k ↔ ∃ i, i < k ∧ F.getD i 0 = d := by
  rw [mem_at]
  constructor
  · rintro ⟨i, hi, h⟩
    rw [List.length_take] at hi
    refine ⟨i, by omega, ?_⟩
    rw [getD_ix _ (by rw [List.length_take]; exact hi), List.getElem_take] at h
    rw [getD_ix F (by omega)]; exact h
  · rintro ⟨i, hi, h⟩
    refine ⟨i, by rw [List.length_take]; omega, ?_⟩
    rw [getD_ix _ (by rw [List.length_take]; omega), List.getElem_take]
    rw [getD_ix F (by omega)] at h; exact h
theorem sorted_of {F : List Int} (h : fnz (frBad F) F.length = 0) : F.Pairwise (· ≤ ·) := by
  rw [List.pairwise_iff_getElem]
  intro i j hi hj hij
  have := rise_lt h hij hj
  rw [getD_ix F hi, getD_ix F hj] at this
  omega

/-- A day's minutes by its weekday. -/
def wkM (q : Nat → Int) (d : Int) : Int := q (wkV d).toNat
/-- A pattern's minutes on a day. -/
def onV (q : Nat → Int) (F : List Int) (d : Int) : Int := if chk q F = 0 ∧ inB d = true ∧ d ∉ F then wkM q d else 0
theorem wkV_bd {d : Int} (h : inB d = true) : 0 ≤ wkV d ∧ wkV d ≤ 6 := by unfold wkV; rw [if_pos h]; omega
theorem wkM_bd {q : Nat → Int} (h : chkW q = 0) {d : Int} (hd : inB d = true) : 0 ≤ wkM q d ∧ wkM q d ≤ 1440 := by
  have := wkV_bd hd
  exact chkW_bd h _ (by omega)
theorem onV_bad {q : Nat → Int} {F : List Int} (h : chk q F ≠ 0) (d : Int) : onV q F d = 0 := by unfold onV; rw [if_neg]; exact fun g => h g.1
theorem onV_out {q : Nat → Int} {F : List Int} {d : Int} (h : inB d = false) : onV q F d = 0 := by unfold onV; rw [if_neg]; rintro ⟨-, g, -⟩; rw [h] at g; cases g
theorem onV_free {q : Nat → Int} {F : List Int} {d : Int} (h : d ∈ F) : onV q F d = 0 := by unfold onV; rw [if_neg]; exact fun g => g.2.2 h
theorem onV_yes {q : Nat → Int} {F : List Int} {d : Int} (h : chk q F = 0) (h1 : inB d = true) (h2 : d ∉ F) : onV q F d = wkM q d := by unfold onV; rw [if_pos ⟨h, h1, h2⟩]
theorem onV_bd (q : Nat → Int) (F : List Int) (d : Int) : 0 ≤ onV q F d ∧ onV q F d ≤ 1440 := by
  unfold onV
  split
  · rename_i h; exact wkM_bd (chk_parts h.1).1 h.2.1
  · omega

/-- A sum over days on end. -/
def sumD (f : Int → Int) (a : Int) : Nat → Int
  | 0 => 0
  | n + 1 => sumD f a n + f (a + n)
theorem sumD_congr {f g : Int → Int} {a : Int} : ∀ {n : Nat}, (∀ d, a ≤ d → d < a + n → f d = g d) → sumD f a n = sumD g a n
  | 0, _ => rfl
  | n + 1, h => by
    show sumD f a n + f (a + n) = sumD g a n + g (a + n)
    rw [sumD_congr (n := n) (fun d h1 h2 => h d h1 (by omega)), h (a + n) (by omega) (by omega)]
theorem sumD_bd {f : Int → Int} {a : Int} {m : Int} (h : ∀ d, 0 ≤ f d ∧ f d ≤ m) : ∀ n : Nat, 0 ≤ sumD f a n ∧ sumD f a n ≤ m * n
  | 0 => by simp [sumD]
  | n + 1 => by
    have ih := sumD_bd (a := a) h n
    have h1 := h (a + n)
    show 0 ≤ sumD f a n + f (a + n) ∧ sumD f a n + f (a + n) ≤ m * ((n + 1 : Nat) : Int)
    rw [show m * ((n + 1 : Nat) : Int) = m * n + m by rw [show ((n + 1 : Nat) : Int) = (n : Int) + 1 by omega, Int.mul_add, Int.mul_one]]
    omega
theorem sumD_zero {f : Int → Int} {a : Int} : ∀ {n : Nat}, (∀ d, f d = 0) → sumD f a n = 0
  | 0, _ => rfl
  | n + 1, h => by show sumD f a n + f (a + n) = 0; rw [sumD_zero h, h]; rfl
theorem sumD_add (f : Int → Int) (a : Int) (n : Nat) : ∀ m : Nat, sumD f a (n + m) = sumD f a n + sumD f (a + n) m
  | 0 => by simp [sumD]
  | m + 1 => by
    show sumD f a (n + m) + f (a + (n + m : Nat)) = sumD f a n + (sumD f (a + n) m + f (a + n + m))
    rw [sumD_add f a n m, show a + ((n + m : Nat) : Int) = a + n + m by omega]; omega
theorem sumD_kill (k : Int → Int) (x : Int) (a : Int) : ∀ n : Nat, sumD (fun d => if d = x then 0 else k d) a n = sumD k a n - if a ≤ x ∧ x < a + n then k x else 0
  | 0 => by rw [if_neg (by omega)]; rfl
  | n + 1 => by
    show sumD (fun d => if d = x then 0 else k d) a n + (if a + n = x then 0 else k (a + n)) = sumD k a n + k (a + n) - _
    rw [sumD_kill k x a n]
    by_cases h : a + n = x
    · subst h
      rw [if_pos rfl, if_neg (by omega), if_pos (by omega)]; omega
    · rw [if_neg h]
      by_cases h2 : a ≤ x ∧ x < a + n
      · rw [if_pos h2, if_pos (by omega)]; omega
      · rw [if_neg h2, if_neg (by omega)]; omega
/-- One free day more. -/
theorem sumD_free {F : List Int} (h : fnz (frBad F) F.length = 0) (g : Int → Int) (a : Int) (n : Nat) {k : Nat} (hk : k < F.length) :
    sumD (fun d => if d ∈ F.take (k + 1) then 0 else g d) a n = sumD (fun d => if d ∈ F.take k then 0 else g d) a n - if a ≤ F.getD k 0 ∧ F.getD k 0 < a + n then g (F.getD k 0) else 0 := by
  have hx : F.getD k 0 ∉ F.take k := by
    rw [mem_take (by omega)]
    rintro ⟨i, hi, he⟩
    have := rise_lt h hi hk
    omega
  have := sumD_kill (fun d => if d ∈ F.take k then 0 else g d) (F.getD k 0) a n
  rw [if_neg hx] at this
  rw [← this]
  apply sumD_congr
  intro d _ _
  have e : d ∈ F.take (k + 1) ↔ d = F.getD k 0 ∨ d ∈ F.take k := by
    rw [mem_take (by omega), mem_take (by omega)]
    constructor
    · rintro ⟨i, hi, he⟩
      rcases Nat.lt_or_ge i k with hlt | hge
      · exact .inr ⟨i, hlt, he⟩
      · rw [show i = k by omega] at he; exact .inl he.symm
    · rintro (rfl | ⟨i, hi, he⟩)
      · exact ⟨k, by omega, rfl⟩
      · exact ⟨i, by omega, he⟩
  by_cases h1 : d = F.getD k 0
  · rw [if_pos (e.2 (.inl h1)), if_pos h1]
  · rw [if_neg h1]
    by_cases h2 : d ∈ F.take k
    · rw [if_pos (e.2 (.inr h2)), if_pos h2]
    · rw [if_neg h2, if_neg (fun g => (e.1 g).elim h1 h2)]
theorem inB_next {a : Int} {n : Nat} (h1 : -25567 ≤ a) (h2 : a + n ≤ 84006) : ∀ d, a ≤ d → d < a + n → inB d = true := fun d a1 a2 => inB_yes (by omega) (by omega)
/-- The sum without the free days is that of the pattern's minutes. -/
theorem sumD_on {q : Nat → Int} {F : List Int} (h : chk q F = 0) (hh : Int → Int) (h0 : hh 0 = 0) {a : Int} {n : Nat} (h1 : -25567 ≤ a) (h2 : a + n ≤ 84006) :
    sumD (fun d => if d ∈ F then 0 else hh (wkM q d)) a n = sumD (fun d => hh (onV q F d)) a n := by
  apply sumD_congr
  intro d a1 a2
  have hi := inB_next h1 h2 d a1 a2
  show (if d ∈ F then 0 else hh (wkM q d)) = hh (onV q F d)
  by_cases hm : d ∈ F
  · rw [if_pos hm, onV_free hm, h0]
  · rw [if_neg hm, onV_yes h hi hm]
/-- From which day on, and how many days, a span has in the calendar. -/
def lo (a : Int) : Int := max a (-25567)
def cnt (a b : Int) : Nat := (min b 84006 - max a (-25567)).toNat
/-- 1 for what isn't 0. -/
def one (m : Int) : Int := if m = 0 then 0 else 1
theorem one_bd (m : Int) : 0 ≤ one m ∧ one m ≤ 1 := by unfold one; split <;> omega
/-- Minutes, and days, of a span. -/
def minsV (q : Nat → Int) (F : List Int) (a b : Int) : Int := sumD (fun d => onV q F d) (lo a) (cnt a b)
def daysV (q : Nat → Int) (F : List Int) (a b : Int) : Int := sumD (fun d => one (onV q F d)) (lo a) (cnt a b)
theorem cnt_bd (a b : Int) : cnt a b ≤ 109573 := by unfold cnt; omega
theorem cnt_in {a b : Int} (h : 0 < cnt a b) : -25567 ≤ lo a ∧ lo a + cnt a b ≤ 84006 := by unfold cnt lo at *; omega
theorem minsV_bd (q : Nat → Int) (F : List Int) (a b : Int) : 0 ≤ minsV q F a b ∧ minsV q F a b ≤ 157785120 := by
  have h1 := sumD_bd (f := fun d => onV q F d) (a := lo a) (fun d => onV_bd q F d) (cnt a b)
  have := cnt_bd a b
  unfold minsV; omega
theorem daysV_bd (q : Nat → Int) (F : List Int) (a b : Int) : 0 ≤ daysV q F a b ∧ daysV q F a b ≤ 109573 := by
  have h1 := sumD_bd (f := fun d => one (onV q F d)) (a := lo a) (fun d => one_bd _) (cnt a b)
  have := cnt_bd a b
  unfold daysV; omega

end Go.Proofs.YtbgilplaefdhbaaDoor
