/-
  What is proved: the contract of Days for a set that isn't far, in numbers of days; what these numbers add up to. Conditions: the set's days lie within 2^40.
-/
import Derived.Test.YtefcadngdcgpiaaSpV
namespace Go.Proofs.Ytefcadngdcgpiaa
open Go Go.RowKit Go.Proofs
set_option linter.unusedVariables false

/-- A span that isn't far. -/
def InP (s : Sp) : Prop := -1099511627776 ≤ s.1 ∧ s.2 ≤ 1099511627776
/-- Days that aren't far. -/
def Near (P : Int → Bool) : Prop := ∀ d, P d = true → -1099511627776 ≤ d ∧ d < 1099511627776
theorem near_of {L : List Sp} {n : Nat} (hn : n = L.length) (h : ∀ i, i < n → InP (L.getD i (0, 0))) : Near (fun d => hasB L d) := by
  intro d hd
  obtain ⟨s, hs, h1, h2⟩ := hasB_iff.1 hd
  obtain ⟨i, hi, e⟩ := List.getElem_of_mem hs
  have h3 := h i (by omega)
  rw [getD_at L _ hi, e] at h3
  obtain ⟨h4, h5⟩ := h3
  exact ⟨by omega, by omega⟩
theorem cntP_bd (P : Int → Bool) (a : Int) : ∀ n : Nat, 0 ≤ cntP P a n ∧ cntP P a n ≤ n
  | 0 => ⟨Int.le_refl _, Int.le_refl _⟩
  | n + 1 => by
    have := cntP_bd P a n
    unfold cntP
    push_cast
    split <;> omega
@[irreducible] def big : Nat := 2199023255552
theorem big_eq : (big : Int) = 2199023255552 := by unfold big; rfl
/-- How many days there are. -/
@[irreducible] def dn (P : Int → Bool) : Int := cntP P (-1099511627776) big
theorem dn_bd (P : Int → Bool) : 0 ≤ dn P ∧ dn P ≤ 2199023255552 := by
  have h1 := cntP_bd P (-1099511627776) big
  rw [big_eq] at h1
  unfold dn
  exact h1
theorem dn_add {P Q R S : Int → Bool} (h : ∀ d, (if P d = true then (1 : Int) else 0) + (if Q d = true then 1 else 0) = (if R d = true then 1 else 0) + (if S d = true then 1 else 0)) : dn P + dn Q = dn R + dn S := by
  unfold dn; exact cntP_add _ _ h
theorem dn_no : dn (fun _ => false) = 0 := by unfold dn; exact cntP_no _ _
theorem dn_cut (A B : Int → Bool) : dn (fun d => A d && B d) + dn (fun d => A d && !B d) = dn A := by
  have h := dn_add (P := fun d => A d && B d) (Q := fun d => A d && !B d) (R := A) (S := fun _ => false) (fun d => by cases A d <;> cases B d <;> rfl)
  rw [dn_no] at h; omega
theorem dn_or (A B : Int → Bool) : dn (fun d => A d || B d) + dn (fun d => A d && B d) = dn A + dn B :=
  dn_add (fun d => by cases A d <;> cases B d <;> rfl)
/-- Its days aren't far, and so many. -/
def DN (P : Int → Bool) (r : Int) : Prop := Near P ∧ dn P = r
theorem DaysK {v : Value} {N : Nat} {P : Int → Bool} {w : World} {r : Int} (h : IsSet w N P v) (hN : N ≤ 100000) (hD : Hid (DN P r)) :
    Calls Try.prog 22 #[v] w fun e w' => e = .returned (.int .i64 r) ∧ Below w.heap.size w w' := by
  obtain ⟨h1, rfl⟩ := hD.out
  refine (Days_any v N P w hN h).mono ?_
  rintro e w' ⟨⟨K, k, m, -, rfl⟩, hb⟩
  refine ⟨?_, hb⟩
  have hf : ∀ s ∈ K, -1099511627776 ≤ s.1 ∧ s.2 ≤ -1099511627776 + (big : Int) := fun s hs => by
    have hne := k.2 s hs
    have h2 := h1 s.1 ((m s.1).1 ⟨s, hs, by omega, by omega⟩)
    have h3 := h1 (s.2 - 1) ((m _).1 ⟨s, hs, by omega, by omega⟩)
    rw [big_eq]
    omega
  have e2 : hasB K = P := by funext d; rw [Bool.eq_iff_iff, hasB_iff, m]
  have h4 := dsum_cnt (-1099511627776) big k hf
  rw [e2] at h4
  have h5 : dsum K = dn P := by rw [h4]; unfold dn; rfl
  have h6 := dn_bd P
  rw [h5]
  unfold cut62
  rw [if_pos (by omega)]
theorem kp4 {W0 w : World} {a b c d : Addr} {v u t s : Value} (x : W0.cell? a = some v) (y : W0.cell? b = some u) (z : W0.cell? c = some t) (q : W0.cell? d = some s) (h : Below W0.heap.size W0 w) : (w.cell? a = some v ∧ w.cell? b = some u ∧ w.cell? c = some t ∧ w.cell? d = some s) ∧ Below W0.heap.size W0 w := ⟨⟨(kp1 x h).1, (kp1 y h).1, (kp1 z h).1, (kp1 q h).1⟩, h⟩
theorem cut_no (x y : Bool) : ((x && y) && (x && !y)) = false := by cases x <;> cases y <;> rfl
/-- The numbers of days of both sets. -/
theorem dns_of {A B : Int → Bool} (hA : Near A) (hB : Near B) : ∃ b r s t u z : Int, Hid (DN (fun d => A d && B d) b) ∧ Hid (DN (fun d => A d && !B d) r) ∧ Hid (DN A s) ∧ Hid (DN B t) ∧ Hid (DN (fun d => A d || B d) u) ∧ IntKind.i64.wrap (b + r) = s ∧ IntKind.i64.wrap (u + b) = z ∧ IntKind.i64.wrap (s + t) = z := by
  have h1 := dn_cut A B
  have h2 := dn_or A B
  have b1 := dn_bd A
  have b2 := dn_bd B
  have b3 := dn_bd (fun d => A d && B d)
  have b4 := dn_bd (fun d => A d && !B d)
  have b5 := dn_bd (fun d => A d || B d)
  refine ⟨_, _, _, _, _, dn A + dn B, Lib.hid ⟨fun d h => ?_, rfl⟩, Lib.hid ⟨fun d h => ?_, rfl⟩, Lib.hid ⟨hA, rfl⟩, Lib.hid ⟨hB, rfl⟩, Lib.hid ⟨fun d h => ?_, rfl⟩, ?_, ?_, ?_⟩
  · exact hA d (by cases e : A d <;> simp [e] at h ⊢)
  · exact hA d (by cases e : A d <;> simp [e] at h ⊢)
  · cases e : A d
    · exact hB d (by simpa [e] using h)
    · exact hA d e
  · rw [IntWalk.i64_in _ (by omega)]; exact h1
  · rw [IntWalk.i64_in _ (by omega)]; exact h2
  · exact IntWalk.i64_in _ (by omega)

end Go.Proofs.Ytefcadngdcgpiaa
