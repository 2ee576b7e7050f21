/-
  What is proved: plain facts on how the document reads a week's text, byte by byte. Conditions: none.
-/
import Derived.Test.YtbgilplaefdhbaaDoorDkM
namespace Go.Proofs.YtbgilplaefdhbaaDoor
open Go Go.Lib
set_option linter.unusedVariables false

def glue (c : List UInt8) : List (List UInt8) → List (List UInt8)
  | [] => [c]
  | f :: gs => (c ++ f) :: gs
theorem glue_nil (l : List UInt8) : glue [] (fieldsL l) = fieldsL l := by
  obtain ⟨f, fs, e⟩ := List.exists_cons_of_ne_nil (fieldsL_ne l)
  rw [e]; rfl
theorem glue_digit {b : UInt8} (h : b ≠ 32) (c r : List UInt8) : glue c (fieldsL (b :: r)) = glue (c ++ [b]) (fieldsL r) := by
  obtain ⟨f, fs, e⟩ := List.exists_cons_of_ne_nil (fieldsL_ne r)
  rw [fieldsL_cons h e, e]
  simp [glue]
theorem glue_blank (c r : List UInt8) : glue c (fieldsL (32 :: r)) = c :: fieldsL r := by
  rw [fieldsL, if_pos rfl]; simp [glue]
theorem glue_end (c : List UInt8) : glue c (fieldsL []) = [c] := by simp [glue, fieldsL]
theorem glue_ne (c r : List UInt8) : ∃ f gs, glue c (fieldsL r) = (c ++ f) :: gs := by
  obtain ⟨f, fs, e⟩ := List.exists_cons_of_ne_nil (fieldsL_ne r)
  exact ⟨f, fs, by rw [e]; rfl⟩

def cap (v : Nat) : Int := min (v : Int) 100000
theorem cap_bd (v : Nat) : 0 ≤ cap v ∧ cap v ≤ 100000 := by unfold cap; omega
theorem cap_big (v : Nat) : 1440 < cap v ↔ 1440 < v := by unfold cap; omega
theorem cap_small {v : Nat} (h : v ≤ 1440) : cap v = v := by unfold cap; omega
theorem cap_snoc (l : List UInt8) (b : UInt8) (h : 48 ≤ b.toNat) : cap (valN (l ++ [b])) = min (10 * cap (valN l) + ((b.toNat : Int) - 48)) 100000 := by
  rw [valN_snoc]; unfold cap; omega
/-- The week's numbers while it is read: the fields that are done, and what is there of the next one. -/
def rV (fs : List (List UInt8)) (c : List UInt8) (j : Nat) : Int := if j < fs.length then cap (valN (fs.getD j [])) else if j = fs.length then cap (valN c) else 0
def bigs (fs : List (List UInt8)) : Bool := fs.any (fun f => decide (1440 < valN f))
/-- What holds while the document reads. -/
structure Rd (S : List UInt8) (i fr : Nat) (fs : List (List UInt8)) (c : List UInt8) : Prop where
  le : i ≤ S.length
  lo : fr ≤ i
  cur : c = (S.take i).drop fr
  split : fieldsL S = fs ++ glue c (fieldsL (S.drop i))
  good : ∀ f ∈ fs, badN f = false
  dig : ∀ b ∈ c, isDg b = true
  room : fs.length ≤ 6 ∨ (fs.length = 7 ∧ c = [])
theorem Rd.start (S : List UInt8) : Rd S 0 0 [] [] := ⟨by omega, by omega, by simp, by simp [glue_nil], (fun f hf => by cases hf), (fun b hb => by cases hb), .inl (by simp)⟩
theorem Rd.len {S c : List UInt8} {i fr : Nat} {fs : List (List UInt8)} (h : Rd S i fr fs c) : c.length = i - fr := by
  have := h.le
  rw [h.cur, List.length_drop, List.length_take]; omega
theorem Rd.byte {S c : List UInt8} {i fr : Nat} {fs : List (List UInt8)} {b : UInt8} (h : Rd S i fr fs c) (hb : S[i]? = some b) : S.drop i = b :: S.drop (i + 1) := by
  obtain ⟨hi, e⟩ := List.getElem?_eq_some_iff.1 hb
  rw [List.drop_eq_getElem_cons hi, e]
/-- A digit more. -/
theorem Rd.digit {S c : List UInt8} {i fr : Nat} {fs : List (List UInt8)} {b : UInt8} (h : Rd S i fr fs c) (hb : S[i]? = some b) (h32 : b ≠ 32) (hd : isDg b = true) (ha : fs.length ≤ 6) : Rd S (i + 1) fr fs (c ++ [b]) := by
  obtain ⟨hi, e⟩ := List.getElem?_eq_some_iff.1 hb
  refine ⟨by omega, by have := h.lo; omega, ?_, ?_, h.good, ?_, .inl ha⟩
  · rw [List.take_succ_eq_append_getElem hi, e, List.drop_append_of_le_length (by rw [List.length_take]; have := h.lo; omega), ← h.cur]
  · rw [h.split, h.byte hb, glue_digit h32]
  · intro x hx
    rcases List.mem_append.1 hx with hx | hx
    · exact h.dig x hx
    · rw [List.mem_singleton.1 hx]; exact hd
/-- What stands there is no digit. -/
theorem Rd.odd {S c : List UInt8} {i fr : Nat} {fs : List (List UInt8)} {b : UInt8} (h : Rd S i fr fs c) (hb : S[i]? = some b) (h32 : b ≠ 32) (hd : isDg b = false) : wfE (fieldsL S) = 3 := by
  obtain ⟨f, gs, e⟩ := glue_ne (c ++ [b]) (S.drop (i + 1))
  refine wfE_bad (.inr ⟨c ++ [b] ++ f, ?_, ?_⟩)
  · rw [h.split, h.byte hb, glue_digit h32, e]; simp
  · have : (c ++ [b] ++ f).all isDg = false := by
      rw [List.all_eq_false]; exact ⟨b, by simp, by simp [hd]⟩
    unfold badN; rw [this]; simp
theorem Rd.full {S c : List UInt8} {i fr : Nat} {fs : List (List UInt8)} (h : Rd S i fr fs c) (ha : fs.length = 7) : wfE (fieldsL S) = 3 := by
  obtain ⟨f, gs, e⟩ := glue_ne c (S.drop i)
  refine wfE_bad (.inl ?_)
  rw [h.split, e]; simp; omega
/-- What closes a field: a blank, or the end. -/
def Closes (S : List UInt8) (i : Nat) : Prop := S[i]? = some 32 ∨ i = S.length
theorem Rd.close_split {S c : List UInt8} {i fr : Nat} {fs : List (List UInt8)} (h : Rd S i fr fs c) (hc : Closes S i) : ∃ gs, fieldsL S = fs ++ c :: gs := by
  rcases hc with hb | rfl
  · exact ⟨fieldsL (S.drop (i + 1)), by rw [h.split, h.byte hb, glue_blank]⟩
  · exact ⟨[], by rw [h.split, List.drop_eq_nil_of_le (Nat.le_refl _), glue_end]⟩
theorem Rd.bad {S c : List UInt8} {i fr : Nat} {fs : List (List UInt8)} (h : Rd S i fr fs c) (hc : Closes S i) (hb : badN c = true) : wfE (fieldsL S) = 3 := by
  obtain ⟨gs, e⟩ := h.close_split hc
  exact wfE_bad (.inr ⟨c, by rw [e]; simp, hb⟩)
theorem Rd.next {S c : List UInt8} {i fr : Nat} {fs : List (List UInt8)} (h : Rd S i fr fs c) (hb : S[i]? = some 32) (hn : badN c = false) (ha : fs.length ≤ 6) : Rd S (i + 1) (i + 1) (fs ++ [c]) [] := by
  obtain ⟨hi, e⟩ := List.getElem?_eq_some_iff.1 hb
  refine ⟨by omega, Nat.le_refl _, ?_, ?_, ?_, (fun b hb => by cases hb), ?_⟩
  · rw [List.drop_eq_nil_of_le (by rw [List.length_take]; omega)]
  · rw [h.split, h.byte hb, glue_blank, glue_nil]; simp
  · intro f hf
    rcases List.mem_append.1 hf with hf | hf
    · exact h.good f hf
    · rw [List.mem_singleton.1 hf]; exact hn
  · rw [List.length_append, List.length_singleton]
    by_cases h6 : fs.length + 1 ≤ 6
    · exact .inl h6
    · exact .inr ⟨by omega, rfl⟩
/-- All is read. -/
structure Rdd (S : List UInt8) (fs : List (List UInt8)) : Prop where
  all : fieldsL S = fs
  good : ∀ f ∈ fs, badN f = false
  room : fs.length ≤ 7
theorem Rd.done {S c : List UInt8} {i fr : Nat} {fs : List (List UInt8)} (h : Rd S i fr fs c) (hi : i = S.length) (hn : badN c = false) (ha : fs.length ≤ 6) : Rdd S (fs ++ [c]) := by
  refine ⟨?_, ?_, by simp; omega⟩
  · rw [h.split, List.drop_eq_nil_of_le (by omega), glue_end]
  · intro f hf
    rcases List.mem_append.1 hf with hf | hf
    · exact h.good f hf
    · rw [List.mem_singleton.1 hf]; exact hn
theorem rV_push (fs : List (List UInt8)) (c : List UInt8) (j : Nat) : rV (fs ++ [c]) [] j = rV fs c j := by
  unfold rV
  rw [List.length_append, List.length_singleton]
  rcases Nat.lt_trichotomy j fs.length with h | h | h
  · rw [if_pos (by omega), if_pos h]
    rw [List.getD, List.getD, List.getElem?_append_left h]
  · rw [if_pos (by omega), if_neg (by omega), if_pos h]
    rw [List.getD, h, List.getElem?_append_right (Nat.le_refl _)]
    simp
  · rw [if_neg (show ¬ j < fs.length + 1 by omega), if_neg (show ¬ j < fs.length by omega), if_neg (show ¬ j = fs.length by omega)]
    by_cases e : j = fs.length + 1
    · rw [if_pos e]; rfl
    · rw [if_neg e]
theorem rV_cur (fs : List (List UInt8)) (c : List UInt8) : rV fs c fs.length = cap (valN c) := by unfold rV; rw [if_neg (by omega), if_pos rfl]
theorem rV_more (fs : List (List UInt8)) (c c' : List UInt8) (j : Nat) (h : j ≠ fs.length) : rV fs c' j = rV fs c j := by
  unfold rV
  by_cases e : j < fs.length
  · rw [if_pos e, if_pos e]
  · rw [if_neg e, if_neg e, if_neg h, if_neg h]
theorem bigs_push (fs : List (List UInt8)) (c : List UInt8) : bigs (fs ++ [c]) = (bigs fs || decide (1440 < valN c)) := by unfold bigs; simp
theorem badN_of {c : List UInt8} (hne : c ≠ []) (hd : ∀ b ∈ c, isDg b = true) (h : c.head? ≠ some 48 ∨ c.length ≤ 1) : badN c = false := by
  unfold badN
  rw [show c.isEmpty = false by simpa using hne, show c.all isDg = true from List.all_eq_true.2 hd]
  simp
  rcases h with h | h
  · intro e; exact absurd e h
  · intro _; omega
theorem badN_zero {c : List UInt8} (h : c.head? = some 48) (hl : 1 < c.length) : badN c = true := by unfold badN; rw [h]; simp [hl]
theorem Rdd.end {S : List UInt8} {fs : List (List UInt8)} (h : Rdd S fs) : (fs.length ≠ 7 → wfE (fieldsL S) = 3) ∧ (fs.length = 7 → bigs fs = true → wfE (fieldsL S) = 2) ∧ (fs.length = 7 → bigs fs = false → wfE (fieldsL S) = 0 ∧ ∀ j, j < 7 → wfV (fieldsL S) j = rV fs [] j) := by
  rw [h.all]
  refine ⟨fun h1 => wfE_bad (.inl h1), fun h1 h2 => ?_, fun h1 h2 => ?_⟩
  · rcases wfE_cases fs with ⟨-, g | ⟨f, hf, hb⟩⟩ | ⟨-, -, ⟨g, -⟩ | ⟨-, g⟩⟩
    · exact absurd h1 g
    · rw [h.good f hf] at hb; cases hb
    · exact g
    · obtain ⟨f, hf, hv⟩ := List.any_eq_true.1 h2
      have := g f hf
      simp at hv; omega
  · have h3 : wfE fs = 0 ∧ ∀ f ∈ fs, valN f ≤ 1440 := by
      rcases wfE_cases fs with ⟨-, g | ⟨f, hf, hb⟩⟩ | ⟨-, -, ⟨-, f, hf, hv⟩ | g⟩
      · exact absurd h1 g
      · rw [h.good f hf] at hb; cases hb
      · have := List.any_eq_false.1 h2 f hf
        simp at this; omega
      · exact g
    refine ⟨h3.1, fun j hj => ?_⟩
    unfold wfV rV
    rw [h3.1, if_pos rfl, if_pos (by omega)]
    have : fs.getD j [] ∈ fs := by rw [List.getD, List.getElem?_eq_getElem (by omega)]; exact List.getElem_mem _
    rw [cap_small (h3.2 _ this)]

end Go.Proofs.YtbgilplaefdhbaaDoor
