/-
  What is proved: plain facts on what a table takes: more has no less, a cent more at most a cent more; and on tax to date. Conditions: as there.
-/
import Derived.Test.YtbflgckmhhmklaaTxL
namespace Go.Proofs.Ytbflgckmhhmklaa
open Go Go.RowKit
set_option linter.unusedVariables false

/-- A band's part of x, none below its From. -/
def partV (f : Nat → Bd) (n : Nat) (x idx : Int) (i : Nat) : Int := max 0 (toV f n x idx i - (f i).1 * idx)
def parts (f : Nat → Bd) (n : Nat) (x idx : Int) : Nat → Int
  | 0 => 0
  | i + 1 => parts f n x idx i + (f i).2 * partV f n x idx i
def heldS (f : Nat → Bd) (n : Nat) (x idx : Int) : Nat → Int
  | 0 => 0
  | i + 1 => heldS f n x idx i + partV f n x idx i
theorem parts_sum {f : Nat → Bd} {n : Nat} (hr : Rises f n) {x idx : Int} (hi : 1 ≤ idx) : ∀ i, i ≤ n → (∀ j, j < i → (f j).1 * idx < x) → parts f n x idx i = sumV f n x idx i
  | 0, _, _ => rfl
  | i + 1, hn, hj => by
    have ih := parts_sum hr hi i (by omega) (fun j h => hj j (by omega))
    have ht := to_gt hr hi (by omega : i < n) (hj i (by omega))
    show parts f n x idx i + (f i).2 * partV f n x idx i = sumV f n x idx i + (f i).2 * heldV f n x idx i
    rw [ih, show partV f n x idx i = heldV f n x idx i by unfold partV heldV; omega]
theorem rises_le {f : Nat → Bd} {n : Nat} (hr : Rises f n) {i : Nat} : ∀ k, i + k < n → (f i).1 ≤ (f (i + k)).1
  | 0, _ => Int.le_refl _
  | k + 1, h => by
    have := rises_le (i := i) hr k (by omega)
    have := hr.2.2 (i + k) (by omega)
    show (f i).1 ≤ (f (i + k + 1)).1
    omega
theorem parts_off {f : Nat → Bd} {n : Nat} (hr : Rises f n) {x idx : Int} (hi : 1 ≤ idx) {c : Nat} (hs : c < n → x ≤ (f c).1 * idx) : ∀ k, c + k ≤ n → parts f n x idx (c + k) = parts f n x idx c
  | 0, _ => rfl
  | k + 1, h => by
    have ih := parts_off hr hi hs k (by omega)
    have h1 := hs (by omega)
    have h2 := rises_le hr (i := c) k (by omega)
    have h3 : (f c).1 * idx ≤ (f (c + k)).1 * idx := Int.mul_le_mul_of_nonneg_right h2 (by omega)
    have h4 := to_le f n x idx (c + k)
    show parts f n x idx (c + k) + (f (c + k)).2 * partV f n x idx (c + k) = _
    rw [ih, show partV f n x idx (c + k) = 0 by unfold partV; omega]; omega
theorem takes_parts {f : Nat → Bd} {n : Nat} (hr : Rises f n) {x idx : Int} (hi : 1 ≤ idx) : takesV f n x idx = parts f n x idx n := by
  obtain ⟨h1, h2, h3⟩ := cnt_spec f n x idx
  unfold takesV
  rw [← parts_sum hr hi _ h1 h2]
  have h4 := parts_off hr hi h3 (n - cnt f n x idx) (by omega)
  rw [show cnt f n x idx + (n - cnt f n x idx) = n by omega] at h4
  exact h4.symm
theorem part_mono {f : Nat → Bd} {n : Nat} {x y idx : Int} (h : x ≤ y) (i : Nat) : partV f n x idx i ≤ partV f n y idx i := by
  unfold partV toV
  split <;> omega
theorem parts_mono {f : Nat → Bd} {n : Nat} (hr : Rises f n) {x y idx : Int} (h : x ≤ y) : ∀ i, i ≤ n → parts f n x idx i ≤ parts f n y idx i ∧ parts f n y idx i - parts f n x idx i ≤ 1000000 * (heldS f n y idx i - heldS f n x idx i)
  | 0, _ => ⟨Int.le_refl _, by show (0 : Int) - 0 ≤ 1000000 * (0 - 0); omega⟩
  | i + 1, hn => by
    obtain ⟨h1, h2⟩ := parts_mono (idx := idx) hr h i (by omega)
    obtain ⟨-, r0, r1⟩ := hr.2.1 i (by omega)
    have hm := rate_mul r0 r1 (p := partV f n y idx i - partV f n x idx i) (by have := part_mono (f := f) (n := n) (idx := idx) h i; omega)
    rw [Int.mul_sub] at hm
    show parts f n x idx i + (f i).2 * partV f n x idx i ≤ parts f n y idx i + (f i).2 * partV f n y idx i ∧ (parts f n y idx i + (f i).2 * partV f n y idx i) - (parts f n x idx i + (f i).2 * partV f n x idx i) ≤ 1000000 * ((heldS f n y idx i + partV f n y idx i) - (heldS f n x idx i + partV f n x idx i))
    omega
theorem held_is {f : Nat → Bd} {n : Nat} (hr : Rises f n) {x idx : Int} (hi : 1 ≤ idx) : ∀ i, i < n → heldS f n x idx i = max 0 (min x ((f i).1 * idx))
  | 0, hn => by rw [hr.1 hn]; show (0 : Int) = _; omega
  | i + 1, hn => by
    have ih := held_is hr (x := x) hi i (by omega)
    have hlt := mul_lt (hr.2.2 i hn) hi
    have hg : 0 ≤ (f i).1 * idx := Int.mul_nonneg (hr.ge i (by omega)) (by omega)
    show heldS f n x idx i + partV f n x idx i = _
    rw [ih]
    unfold partV toV
    rw [if_pos hn]
    omega
theorem held_all {f : Nat → Bd} {n : Nat} (hr : Rises f n) {x idx : Int} (hi : 1 ≤ idx) (hn : 0 < n) : heldS f n x idx n = max 0 x := by
  obtain ⟨m, rfl⟩ : ∃ m, n = m + 1 := ⟨n - 1, by omega⟩
  have ih := held_is hr (x := x) hi m (by omega)
  have hg : 0 ≤ (f m).1 * idx := Int.mul_nonneg (hr.ge m (by omega)) (by omega)
  show heldS f (m + 1) x idx m + partV f (m + 1) x idx m = _
  rw [ih]
  unfold partV toV
  rw [if_neg (by omega)]
  omega
theorem takes_mono {f : Nat → Bd} {n : Nat} (hr : Rises f n) {x y idx : Int} (hi : 1 ≤ idx) (h : x ≤ y) : takesV f n x idx ≤ takesV f n y idx ∧ takesV f n y idx ≤ takesV f n x idx + 1000000 * (y - x) := by
  rw [takes_parts hr hi, takes_parts hr hi]
  obtain ⟨h1, h2⟩ := parts_mono hr (idx := idx) h n (Nat.le_refl _)
  refine ⟨h1, ?_⟩
  by_cases hn : 0 < n
  · rw [held_all hr hi hn, held_all hr hi hn] at h2; omega
  · obtain rfl : n = 0 := by omega
    have e : ∀ z, heldS f 0 z idx 0 = 0 := fun z => rfl
    rw [e, e] at h2; omega
theorem round_mono {s t of : Int} (ho : 1 ≤ of) (h : s ≤ t) : roundT s of ≤ roundT t of := by
  unfold roundT; exact Int.ediv_le_ediv (by omega) (by omega)
theorem round_add (s m of : Int) (ho : 1 ≤ of) : roundT (s + of * 1000000 * m) of = roundT s of + m := by
  unfold roundT
  rw [show s + of * 1000000 * m + of * 500000 = (s + of * 500000) + of * 1000000 * m by omega, Int.add_mul_ediv_left _ _ (by omega)]
theorem round_nil (of : Int) (ho : 1 ≤ of) : roundT 0 of = 0 := by
  unfold roundT; exact Int.ediv_eq_zero_of_lt (by omega) (by omega)

/-- A card whose tax is small, by what it has. -/
def Rc (al ex : Int) (f : Nat → Bd) (n : Nat) : Prop := n ≤ 64 ∧ Rises f n ∧ (∀ i, i < n → (f i).1 ≤ 1099511627776) ∧ (0 ≤ al ∧ al ≤ 1099511627776) ∧ 0 ≤ ex ∧ ex ≤ 1099511627776
theorem chkR_zero {f : Nat → Bd} {n : Nat} (hr : Rises f n) : ∀ i, i ≤ n → chkR f i = 0
  | 0, _ => rfl
  | i + 1, h => by
    unfold chkR
    rw [if_pos (chkR_zero hr i (by omega))]
    unfold chkAt
    obtain ⟨b0, r0, r1⟩ := hr.2.1 i (by omega)
    have h1 : ¬ ((i = 0 ∧ (f i).1 ≠ 0) ∨ (0 < i ∧ (f i).1 ≤ (f (i - 1)).1)) := by
      rintro (⟨rfl, h2⟩ | ⟨h2, h3⟩)
      · exact h2 (hr.1 (by omega))
      · have := hr.2.2 (i - 1) (by omega)
        rw [show i - 1 + 1 = i by omega] at this
        omega
    rw [if_neg h1, if_neg (by omega)]
theorem chkT_zero {f : Nat → Bd} {n : Nat} (hn : n ≤ 64) (hr : Rises f n) : chkT f n = 0 := by
  unfold chkT
  rw [if_neg (by omega), chkR_zero hr n (Nat.le_refl _)]
/-- Tax to date by such a card: what it is. -/
theorem tod_is {base idx of al ex : Int} {f : Nat → Bd} {n : Nat} (hn : n ≤ 64) (hr : Rises f n) (h : okT base idx of al ex = true) (hb : base ≤ 2199023255552) :
    todE base idx of al ex f n = 0 ∧ todV base idx of al ex f n = roundT (takesV f n (base * of - al * idx) idx) of ∧ 0 ≤ todV base idx of al ex f n ∧ todV base idx of al ex f n ≤ max base 0 := by
  obtain ⟨⟨i0, i1, o1⟩, -, ⟨a0, -⟩, -⟩ := okT_iff.1 h
  obtain ⟨-, ⟨k0, -⟩⟩ := taxed_bd h
  have hc := chkT_zero hn hr
  obtain ⟨t0, t1⟩ := takes_bd hr (x := base * of - al * idx) i0
  have h1 := round_mono (of := of) (by omega) t0
  rw [round_nil of (by omega)] at h1
  have hm : max (base * of - al * idx) 0 ≤ of * max base 0 := by
    rcases Int.le_total base 0 with h2 | h2
    · have : base * of ≤ 0 := Int.mul_nonpos_of_nonpos_of_nonneg h2 (by omega)
      rw [show max base 0 = 0 by omega]; omega
    · have : 0 ≤ base * of := Int.mul_nonneg h2 (by omega)
      rw [show max base 0 = base by omega, Int.mul_comm of base]; omega
  have h2 : roundT (takesV f n (base * of - al * idx) idx) of ≤ max base 0 := by
    have h3 := round_mono (of := of) (by omega) (show takesV f n (base * of - al * idx) idx ≤ 0 + of * 1000000 * max base 0 by
      rw [show of * 1000000 * max base 0 = 1000000 * (of * max base 0) by rw [Int.mul_comm of 1000000, Int.mul_assoc]]; omega)
    rw [round_add 0 (max base 0) of (by omega), round_nil of (by omega)] at h3
    omega
  have hE : todE base idx of al ex f n = 0 := by
    unfold todE scE scaledE
    rw [if_pos h, if_pos hc, if_pos (by omega)]
  have hV : todV base idx of al ex f n = roundT (takesV f n (base * of - al * idx) idx) of := by
    unfold todV scV scaledV
    rw [if_pos h, if_pos hc, if_pos (by omega)]
  exact ⟨hE, hV, by omega, by omega⟩
theorem tod_bad {base idx of al ex : Int} {f : Nat → Bd} {n : Nat} (h : okT base idx of al ex = false) : todE base idx of al ex f n = 2 ∧ todV base idx of al ex f n = 0 := by
  unfold todE todV
  rw [h]
  exact ⟨rfl, rfl⟩
theorem okT_by {base idx of al ex : Int} (h0 : -1125899906842624 ≤ base ∧ base ≤ 1125899906842624) (h1 : 0 ≤ al ∧ al ≤ 1125899906842624) (h2 : 0 ≤ ex ∧ ex ≤ 1125899906842624) : okT base idx of al ex = (decide (1 ≤ idx) && (decide (idx ≤ of) && decide (of ≤ 400))) := by
  rw [Bool.eq_iff_iff, okT_iff]
  simp only [Bool.and_eq_true, decide_eq_true_eq]
  constructor
  · rintro ⟨h, -⟩; exact h
  · intro h; exact ⟨h, h0, h1, h2⟩

end Go.Proofs.Ytbflgckmhhmklaa
