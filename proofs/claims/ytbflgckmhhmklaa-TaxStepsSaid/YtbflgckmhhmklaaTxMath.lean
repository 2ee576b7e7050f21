/-
  What is proved: plain facts on what a table takes: its parts, their sum, rounded once. Conditions: as there.
-/
import Derived.WalkKit
namespace Go.Proofs.Ytbflgckmhhmklaa
open Go Go.RowKit

/-- A band: from an amount on, a rate. -/
abbrev Bd := Int × Int
/-- The table is right so far: each From is above the last one, and all is within the limits. -/
def bdOk (b : Bd) : Prop := b.1 ≤ 1125899906842624 ∧ 0 ≤ b.2 ∧ b.2 ≤ 1000000
def Rises (f : Nat → Bd) (n : Nat) : Prop := (0 < n → (f 0).1 = 0) ∧ (∀ i, i < n → bdOk (f i)) ∧ ∀ i, i + 1 < n → (f i).1 < (f (i + 1)).1
theorem Rises.ge {f : Nat → Bd} {n : Nat} (h : Rises f n) : ∀ i, i < n → 0 ≤ (f i).1
  | 0, hi => by rw [h.1 hi]; omega
  | i + 1, hi => by have := h.ge i (by omega); have := h.2.2 i hi; omega

/-- Up to where a band's part goes: x, or the next band's From, whichever is less. -/
def toV (f : Nat → Bd) (n : Nat) (x idx : Int) (i : Nat) : Int := if i + 1 < n then min x ((f (i + 1)).1 * idx) else x
/-- What a band holds of x. -/
def heldV (f : Nat → Bd) (n : Nat) (x idx : Int) (i : Nat) : Int := toV f n x idx i - (f i).1 * idx
/-- The bands that hold something, from the first one on: how many. -/
def stops (f : Nat → Bd) (n : Nat) (x idx : Int) (i : Nat) : Prop := i = n ∨ x ≤ (f i).1 * idx
/-- The sum of the first bands' parts, in millionths. -/
def sumV (f : Nat → Bd) (n : Nat) (x idx : Int) : Nat → Int
  | 0 => 0
  | i + 1 => sumV f n x idx i + (f i).2 * heldV f n x idx i

theorem to_le (f : Nat → Bd) (n : Nat) (x idx : Int) (i : Nat) : toV f n x idx i ≤ x := by unfold toV; split <;> omega
theorem mul_lt {a b i : Int} (h : a < b) (hi : 1 ≤ i) : a * i < b * i := Int.mul_lt_mul_of_pos_right h (by omega)
theorem to_gt {f : Nat → Bd} {n : Nat} (h : Rises f n) {x idx : Int} (hi : 1 ≤ idx) {i : Nat} (_ : i < n) (hx : (f i).1 * idx < x) : (f i).1 * idx < toV f n x idx i := by
  unfold toV
  split
  · rename_i h1
    have := mul_lt (h.2.2 i h1) hi
    omega
  · exact hx
/-- A band holds something just if its From lies below x. -/
theorem to_iff {f : Nat → Bd} {n : Nat} (h : Rises f n) {x idx : Int} (hi : 1 ≤ idx) {i : Nat} (hn : i < n) : toV f n x idx i ≤ (f i).1 * idx ↔ x ≤ (f i).1 * idx := by
  constructor
  · intro h1
    by_cases h2 : x ≤ (f i).1 * idx
    · exact h2
    · have := to_gt h hi hn (by omega : (f i).1 * idx < x); omega
  · intro h1; have := to_le f n x idx i; omega
theorem rate_mul {r p : Int} (h0 : 0 ≤ r) (h1 : r ≤ 1000000) (hp : 0 ≤ p) : 0 ≤ r * p ∧ r * p ≤ 1000000 * p :=
  ⟨Int.mul_nonneg h0 hp, Int.mul_le_mul_of_nonneg_right h1 hp⟩
/-- The sum of the parts so far is at most a million times what they hold. -/
theorem sum_bd {f : Nat → Bd} {n : Nat} (h : Rises f n) {x idx : Int} (hi : 1 ≤ idx) : ∀ i, i < n → (∀ j, j < i → (f j).1 * idx < x) →
    0 ≤ sumV f n x idx i ∧ sumV f n x idx i ≤ 1000000 * ((f i).1 * idx) ∧ (0 < i → (f i).1 * idx < x → toV f n x idx (i - 1) = (f i).1 * idx)
  | 0, hn, _ => by
    refine ⟨Int.le_refl _, ?_, fun h => by omega⟩
    rw [h.1 hn]; show (0 : Int) ≤ _; omega
  | i + 1, hn, hj => by
    obtain ⟨s0, s1, -⟩ := sum_bd h hi i (by omega) (fun j h' => hj j (by omega))
    have h1 := hj i (by omega)
    have ht := to_gt h hi (by omega : i < n) h1
    have hto : toV f n x idx i ≤ (f (i + 1)).1 * idx := by unfold toV; rw [if_pos hn]; omega
    obtain ⟨hb, r0, r1⟩ := h.2.1 i (by omega)
    have hm := rate_mul r0 r1 (p := heldV f n x idx i) (by unfold heldV; omega)
    have hh : heldV f n x idx i = toV f n x idx i - (f i).1 * idx := rfl
    refine ⟨?_, ?_, fun _ hx => ?_⟩
    · show 0 ≤ sumV f n x idx i + (f i).2 * heldV f n x idx i
      omega
    · show sumV f n x idx i + (f i).2 * heldV f n x idx i ≤ _
      omega
    · show toV f n x idx i = _
      unfold toV; rw [if_pos hn]; omega
theorem sum_le {f : Nat → Bd} {n : Nat} (h : Rises f n) {x idx : Int} (hi : 1 ≤ idx) (i : Nat) (hn : i < n) (hj : ∀ j, j ≤ i → (f j).1 * idx < x) :
    0 ≤ sumV f n x idx (i + 1) ∧ sumV f n x idx (i + 1) ≤ 1000000 * toV f n x idx i := by
  obtain ⟨s0, s1, -⟩ := sum_bd h hi i hn (fun j h' => hj j (by omega))
  have ht := to_gt h hi hn (hj i (Nat.le_refl _))
  obtain ⟨hb, r0, r1⟩ := h.2.1 i hn
  have hm := rate_mul r0 r1 (p := heldV f n x idx i) (by unfold heldV; omega)
  have hh : heldV f n x idx i = toV f n x idx i - (f i).1 * idx := rfl
  constructor
  · show 0 ≤ sumV f n x idx i + (f i).2 * heldV f n x idx i
    omega
  · show sumV f n x idx i + (f i).2 * heldV f n x idx i ≤ _
    omega
/-- At most a million times x, and not below 0. -/
theorem sum_all {f : Nat → Bd} {n : Nat} (h : Rises f n) {x idx : Int} (hi : 1 ≤ idx) : ∀ i, i ≤ n → (∀ j, j < i → (f j).1 * idx < x) → 0 ≤ sumV f n x idx i ∧ sumV f n x idx i ≤ 1000000 * max x 0
  | 0, _, _ => ⟨Int.le_refl _, by show (0 : Int) ≤ _; omega⟩
  | i + 1, hn, hj => by
    obtain ⟨s0, s1⟩ := sum_le h hi i (by omega) (fun j h' => hj j (by omega))
    have := to_le f n x idx i
    exact ⟨s0, by omega⟩

/-- The first band that holds nothing. -/
def firstStop (f : Nat → Bd) (n : Nat) (x idx : Int) : Nat → Nat → Nat
  | 0, i => i
  | k + 1, i => if i < n then (if x ≤ (f i).1 * idx then i else firstStop f n x idx k (i + 1)) else i
def cnt (f : Nat → Bd) (n : Nat) (x idx : Int) : Nat := firstStop f n x idx n 0
theorem first_spec (f : Nat → Bd) (n : Nat) (x idx : Int) : ∀ k i, i ≤ n → n ≤ i + k → (∀ j, j < i → (f j).1 * idx < x) →
    firstStop f n x idx k i ≤ n ∧ (∀ j, j < firstStop f n x idx k i → (f j).1 * idx < x) ∧ (firstStop f n x idx k i < n → x ≤ (f (firstStop f n x idx k i)).1 * idx)
  | 0, i, hi, hk, hj => ⟨hi, hj, fun h => by unfold firstStop at h; omega⟩
  | k + 1, i, hi, hk, hj => by
    unfold firstStop
    by_cases h1 : i < n
    · rw [if_pos h1]
      by_cases h2 : x ≤ (f i).1 * idx
      · rw [if_pos h2]; exact ⟨hi, hj, fun _ => h2⟩
      · rw [if_neg h2]
        exact first_spec f n x idx k (i + 1) h1 (by omega) (fun j h' => by
          rcases Nat.lt_succ_iff_lt_or_eq.1 h' with h3 | rfl
          · exact hj j h3
          · omega)
    · rw [if_neg h1]; exact ⟨hi, hj, fun h => absurd h h1⟩
theorem cnt_spec (f : Nat → Bd) (n : Nat) (x idx : Int) : cnt f n x idx ≤ n ∧ (∀ j, j < cnt f n x idx → (f j).1 * idx < x) ∧ (cnt f n x idx < n → x ≤ (f (cnt f n x idx)).1 * idx) :=
  first_spec f n x idx n 0 (Nat.zero_le _) (by omega) (fun j h => by omega)
/-- The first place that stops is the count. -/
theorem cnt_is {f : Nat → Bd} {n : Nat} {x idx : Int} {i : Nat} (hi : i ≤ n) (hj : ∀ j, j < i → (f j).1 * idx < x) (hs : i < n → x ≤ (f i).1 * idx) : cnt f n x idx = i := by
  obtain ⟨h1, h2, h3⟩ := cnt_spec f n x idx
  rcases Nat.lt_trichotomy (cnt f n x idx) i with h | h | h
  · have := hj _ h; have := h3 (by omega); omega
  · exact h
  · have := h2 _ h; have := hs (by omega); omega
/-- What a table takes of x, in millionths. -/
def takesV (f : Nat → Bd) (n : Nat) (x idx : Int) : Int := sumV f n x idx (cnt f n x idx)
/-- Divided by so many periods, rounded once. -/
def roundT (s of : Int) : Int := (s + of * 500000) / (of * 1000000)
/-- The answer, or the error's number. -/
def scaledE (f : Nat → Bd) (n : Nat) (x idx of : Int) : Int := if roundT (takesV f n x idx) of ≤ 1125899906842624 then 0 else 9
def scaledV (f : Nat → Bd) (n : Nat) (x idx of : Int) : Int := if roundT (takesV f n x idx) of ≤ 1125899906842624 then roundT (takesV f n x idx) of else 0
theorem takes_bd {f : Nat → Bd} {n : Nat} (h : Rises f n) {x idx : Int} (hi : 1 ≤ idx) : 0 ≤ takesV f n x idx ∧ takesV f n x idx ≤ 1000000 * max x 0 := by
  obtain ⟨h1, h2, -⟩ := cnt_spec f n x idx
  exact sum_all h hi _ h1 h2

end Go.Proofs.Ytbflgckmhhmklaa
