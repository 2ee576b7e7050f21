/-
  What is proved: plain facts on a week's text: the fields between blanks, what a number in tens says, and when seven fields are a week. Conditions: none.
-/
import Derived.Lib.SplitLaws
import Derived.Lib.ParseIntB
namespace Go.Proofs.YtbgilplaefdhbaaDoor
open Go Go.Lib
set_option linter.unusedVariables false

def isDg (b : UInt8) : Bool := decide (48 ≤ b.toNat) && decide (b.toNat ≤ 57)
def valN (l : List UInt8) : Nat := l.foldl (fun n b => 10 * n + (b.toNat - 48)) 0
theorem valN_snoc (l : List UInt8) (b : UInt8) : valN (l ++ [b]) = 10 * valN l + (b.toNat - 48) := by
  unfold valN; rw [List.foldl_append]; rfl
theorem fold_ge : ∀ (l : List UInt8) (n : Nat), n ≤ l.foldl (fun n b => 10 * n + (b.toNat - 48)) n
  | [], n => Nat.le_refl _
  | b :: l, n => by
    have := fold_ge l (10 * n + (b.toNat - 48))
    simp only [List.foldl_cons]; omega
theorem parseM (M : Nat) (hM : M = 18446744073709551615) : ∀ (l : List UInt8) (acc : Nat), (∀ b ∈ l, isDg b = true) → parseUintM M acc l = if l.foldl (fun n b => 10 * n + (b.toNat - 48)) acc ≤ M ∨ l = [] then .ok (l.foldl (fun n b => 10 * n + (b.toNat - 48)) acc) else .range
  | [], acc, _ => by simp [parseUintM]
  | c :: r, acc, h => by
    have hc := h c (List.mem_cons_self ..)
    simp [isDg] at hc
    have ih := parseM M hM r (acc * 10 + (c.toNat - 48)) (fun b hb => h b (List.mem_cons_of_mem _ hb))
    have hg := fold_ge r (10 * acc + (c.toNat - 48))
    rw [parseUintM, if_pos ⟨hc.1, hc.2⟩]
    simp only [List.foldl_cons, List.cons_ne_nil, or_false]
    rw [show 10 * acc + (c.toNat - 48) = acc * 10 + (c.toNat - 48) by omega] at hg ⊢
    generalize hv : r.foldl (fun n b => 10 * n + (b.toNat - 48)) (acc * 10 + (c.toNat - 48)) = v at ih hg ⊢
    by_cases h1 : 1844674407370955162 ≤ acc
    · rw [if_pos h1, if_neg (by omega)]
    · rw [if_neg h1]
      by_cases h2 : M < acc * 10 + (c.toNat - 48)
      · rw [if_pos h2, if_neg (by omega)]
      · rw [if_neg h2, ih]
        by_cases h3 : v ≤ M
        · rw [if_pos (.inl h3), if_pos h3]
        · rw [if_neg h3, if_neg]
          rintro (h4 | h4)
          · exact h3 h4
          · subst h4
            simp at hv
            omega
theorem parseU {l : List UInt8} (hne : l ≠ []) (h : ∀ b ∈ l, isDg b = true) : parseUintB 64 l = if valN l ≤ 18446744073709551615 then .ok (valN l) else .range := by
  unfold parseUintB
  rw [if_neg hne, parseM (2 ^ 64 - 1) (by decide) _ 0 h]
  show (if valN l ≤ 2 ^ 64 - 1 ∨ l = [] then NumEnd.ok (valN l) else .range) = _
  by_cases h1 : valN l ≤ 18446744073709551615
  · rw [if_pos h1, if_pos (.inl (by omega))]
  · rw [if_neg h1, if_neg]
    rintro (h2 | h2)
    · omega
    · exact hne h2

/-- A text is no number in tens without needless noughts. -/
def badN (l : List UInt8) : Bool := l.isEmpty || (!(l.all isDg)) || (l.head? == some 48 && decide (1 < l.length))
def numE (l : List UInt8) : Int := if badN l = true then 3 else if 1440 < valN l then 2 else 0
theorem numE_cases (l : List UInt8) : (numE l = 3 ∧ badN l = true) ∨ (numE l = 2 ∧ badN l = false ∧ 1440 < valN l) ∨ (numE l = 0 ∧ badN l = false ∧ valN l ≤ 1440) := by
  unfold numE
  cases h : badN l
  · by_cases h2 : 1440 < valN l
    · exact .inr (.inl ⟨by simp [h2], rfl, h2⟩)
    · exact .inr (.inr ⟨by simp [h2], rfl, by omega⟩)
  · exact .inl ⟨by simp, rfl⟩

/-- The fields between blanks. -/
def fieldsL : List UInt8 → List (List UInt8)
  | [] => [[]]
  | b :: r => if b = 32 then [] :: fieldsL r else match fieldsL r with
    | [] => [[b]]
    | f :: fs => (b :: f) :: fs
theorem fieldsL_ne : ∀ l, fieldsL l ≠ []
  | [] => by simp [fieldsL]
  | b :: r => by
    unfold fieldsL
    split
    · simp
    · split <;> simp
theorem fieldsL_cons {b : UInt8} {r : List UInt8} (h : b ≠ 32) {f : List UInt8} {fs : List (List UInt8)} (e : fieldsL r = f :: fs) : fieldsL (b :: r) = (b :: f) :: fs := by
  rw [fieldsL, if_neg h, e]
theorem fieldsL_len : ∀ l, (fieldsL l).length ≤ l.length + 1
  | [] => by simp [fieldsL]
  | b :: r => by
    have ih := fieldsL_len r
    by_cases h : b = 32
    · rw [fieldsL, if_pos h]; simp; omega
    · obtain ⟨f, fs, e⟩ := List.exists_cons_of_ne_nil (fieldsL_ne r)
      rw [fieldsL_cons h e]
      rw [e] at ih
      simp at ih ⊢; omega
theorem idx_fields : ∀ s : List UInt8, (index s [32] = -1 ∧ fieldsL s = [s]) ∨ ∃ i : Nat, index s [32] = i ∧ i < s.length ∧ fieldsL s = s.take i :: fieldsL (s.drop (i + 1))
  | [] => .inl ⟨by simp [index], rfl⟩
  | b :: r => by
    by_cases h : b = 32
    · subst h
      exact .inr ⟨0, by rw [index]; simp [List.isPrefixOf], by simp, by rw [fieldsL, if_pos rfl]; simp⟩
    · have hp : ([32] : List UInt8).isPrefixOf (b :: r) = false := by simp [List.isPrefixOf, Ne.symm h]
      have hix : index (b :: r) [32] = if index r [32] == -1 then -1 else index r [32] + 1 := by rw [index, hp]; simp
      rcases idx_fields r with ⟨h1, h2⟩ | ⟨i, h1, h2, h3⟩
      · exact .inl ⟨by rw [hix, h1]; rfl, by rw [fieldsL_cons h h2]⟩
      · refine .inr ⟨i + 1, ?_, by simp; omega, ?_⟩
        · rw [hix, h1, if_neg (by simp)]; omega
        · rw [fieldsL_cons h h3]; simp
theorem split_all : ∀ (k : Nat) (s : List UInt8), (fieldsL s).length ≤ k + 1 → splitK [32] 0 k s = fieldsL s
  | 0, s, h => by
    rcases idx_fields s with ⟨-, h2⟩ | ⟨i, -, -, h3⟩
    · rw [h2]; rfl
    · rw [h3] at h
      obtain ⟨f, fs, e⟩ := List.exists_cons_of_ne_nil (fieldsL_ne (s.drop (i + 1)))
      rw [e] at h
      simp at h
  | k + 1, s, h => by
    rcases idx_fields s with ⟨h1, h2⟩ | ⟨i, h1, h2, h3⟩
    · rw [splitK, h1, h2]; rfl
    · rw [splitK, h1, if_neg (by simp), h3]
      rw [h3] at h
      simp only [List.length_cons] at h
      rw [show ((i : Int).toNat + 0) = i by omega, show ((i : Int).toNat + ([32] : List UInt8).length) = i + 1 by simp]
      rw [split_all k (s.drop (i + 1)) (by omega)]
theorem split_more : ∀ (k : Nat) (s : List UInt8), k + 1 ≤ (fieldsL s).length → (splitK [32] 0 k s).length = k + 1
  | 0, s, _ => rfl
  | k + 1, s, h => by
    rcases idx_fields s with ⟨h1, h2⟩ | ⟨i, h1, h2, h3⟩
    · rw [h2] at h; simp at h
    · rw [h3] at h
      simp only [List.length_cons] at h
      rw [splitK, h1, if_neg (by simp), List.length_cons]
      rw [show ((i : Int).toNat + ([32] : List UInt8).length) = i + 1 by simp, split_more k (s.drop (i + 1)) (by omega)]

/-- What is wrong with the fields of a week. -/
def wfE (fs : List (List UInt8)) : Int := if fs.length ≠ 7 then 3 else if fs.any badN = true then 3 else if fs.any (fun f => decide (1440 < valN f)) = true then 2 else 0
theorem wfE_cases (fs : List (List UInt8)) : (wfE fs = 3 ∧ (fs.length ≠ 7 ∨ ∃ f ∈ fs, badN f = true)) ∨ (fs.length = 7 ∧ (∀ f ∈ fs, badN f = false) ∧ ((wfE fs = 2 ∧ ∃ f ∈ fs, 1440 < valN f) ∨ (wfE fs = 0 ∧ ∀ f ∈ fs, valN f ≤ 1440))) := by
  unfold wfE
  by_cases h : fs.length ≠ 7
  · exact .inl ⟨by rw [if_pos h], .inl h⟩
  · rw [if_neg h]
    cases h1 : fs.any badN
    · have hb : ∀ f ∈ fs, badN f = false := fun f hf => by
        cases hf' : badN f
        · rfl
        · rw [List.any_eq_true.2 ⟨f, hf, hf'⟩] at h1; cases h1
      cases h2 : fs.any (fun f => decide (1440 < valN f))
      · refine .inr ⟨by omega, hb, .inr ⟨by simp, fun f hf => ?_⟩⟩
        have := List.any_eq_false.1 h2 f hf
        simpa using this
      · obtain ⟨f, hf, hv⟩ := List.any_eq_true.1 h2
        exact .inr ⟨by omega, hb, .inl ⟨by simp, f, hf, by simpa using hv⟩⟩
    · obtain ⟨f, hf, hv⟩ := List.any_eq_true.1 h1
      exact .inl ⟨by simp, .inr ⟨f, hf, hv⟩⟩
/-- The week that the fields say. -/
def wfV (fs : List (List UInt8)) (j : Nat) : Int := if wfE fs = 0 then (valN (fs.getD j []) : Int) else 0
theorem wfE_bad {fs : List (List UInt8)} (h : fs.length ≠ 7 ∨ ∃ f ∈ fs, badN f = true) : wfE fs = 3 := by
  rcases wfE_cases fs with ⟨h1, -⟩ | ⟨h1, h2, -⟩
  · exact h1
  · rcases h with h | ⟨f, hf, hb⟩
    · exact absurd h1 h
    · rw [h2 f hf] at hb; cases hb

end Go.Proofs.YtbgilplaefdhbaaDoor
