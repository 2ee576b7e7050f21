/-
  What is proved: plain facts on bytes: what rate.Parse comes to on a text that passes the document's own tests, place by place, and on one that does not. Conditions: none.
-/
import Derived.Test.YthdjpkpkkdnofabDoorReadMath
namespace Go.Proofs.YthdjpkpkkdnofabDoor
open Go Go.RowKit Go.Sort Go.Lib Go.Proofs

def PassC (l : List UInt8) (a w f : Nat) : Prop := l[a + w]? = some 46 ∧ 1 ≤ f ∧ f ≤ 4 ∧ l[a + w + f]? ≠ some 48 ∧ l.length = a + w + 1 + f + 1 ∧ l[a + w + 1 + f]? = some 37
def PassE (l : List UInt8) (a w : Nat) : Prop := l[a + w]? = some 37 ∧ l.length = a + w + 1
def Pass (l : List UInt8) (a w f : Nat) : Prop := 1 ≤ w ∧ ¬ (1 < w ∧ l[a]? = some 48) ∧ (PassC l a w f ∨ PassE l a w)
/-- The sign's place. -/
structure At (l : List UInt8) (below : Bool) (a : Nat) : Prop where
  one : a = if below = true then 1 else 0
  yes : below = true → l.head? = some 45
  no : below = false → l.head? ≠ some 45
  ne : l ≠ []

theorem at_split {l : List UInt8} {below : Bool} {a : Nat} (h : At l below a) : l = (if below = true then [45] else []) ++ l.drop a := by
  cases below with
  | true =>
    have h1 := h.yes rfl
    rw [h.one]
    cases l with
    | nil => cases h1
    | cons x t => rw [Option.some.inj h1]; rfl
  | false => rw [h.one]; rfl
theorem at_shape {l W F : List UInt8} {below b pt : Bool} {a : Nat} (h : At l below a) (hs : Shape l b W F pt) : l.drop a = W ++ (if pt = true then 46 :: F else []) ++ [37] := by
  obtain ⟨hl, hW, _, _⟩ := hs
  have hd := whole_dig hW
  have hpos := whole_pos hW
  have hhead : ∀ y, (W ++ y).head? ≠ some 45 := by
    intro y e
    cases W with
    | nil => simp at hpos
    | cons x t =>
      simp only [List.all_cons, Bool.and_eq_true] at hd
      rw [List.cons_append, List.head?_cons] at e
      rw [Option.some.inj e] at hd
      exact absurd hd.1 (by decide)
  cases below with
  | true =>
    cases b with
    | true => rw [h.one, hl]; rfl
    | false =>
      exfalso
      have := h.yes rfl
      rw [hl] at this
      rw [if_neg (by simp), List.nil_append, List.append_assoc] at this
      exact hhead _ this
  | false =>
    cases b with
    | true =>
      exfalso
      have := h.no rfl
      rw [hl] at this
      exact this rfl
    | false => rw [h.one, hl]; rfl
theorem get_drop (l : List UInt8) (a j : Nat) : (l.drop a)[j]? = l[a + j]? := List.getElem?_drop

theorem ref_fail {l : List UInt8} {below : Bool} {a w f : Nat} (h : At l below a) (hw : dn (l.drop a) = w) (hf : dn (l.drop (a + w + 1)) = f) (hbad : ¬ Pass l a w f) : rateR l = (0, 3) := by
  apply rateR_else h.ne
  intro b W F pt hs
  apply hbad
  have hr := at_shape h hs
  obtain ⟨p1, p2, p3, p4⟩ := shape_pack hr hs.2.1 hs.2.2.1
  have hlen : (l.drop a).length = l.length - a := List.length_drop
  have hwW : w = W.length := by rw [← hw, p1]
  rw [← hwW] at p2 p3 p4
  refine ⟨p2, ?_, ?_⟩
  · rintro ⟨c1, c2⟩
    apply p3 c1
    rw [get_drop, Nat.add_zero]; exact c2
  · rcases p4 with ⟨_, q1, q2, q3, q4, q5, q6, q7⟩ | ⟨_, q1, q2⟩
    · left
      rw [List.drop_drop, ← Nat.add_assoc, hf] at q2
      rw [← q2] at q3 q4 q5 q6 q7
      rw [get_drop] at q1 q5 q7
      refine ⟨q1, q3, q4, ?_, by omega, ?_⟩
      · rw [show a + w + f = a + (w + f) by omega]; exact q5
      · rw [show a + w + 1 + f = a + (w + 1 + f) by omega]; exact q7
    · right
      rw [get_drop] at q1
      exact ⟨q1, by omega⟩

theorem seg_split (l : List UInt8) (a w : Nat) : l.drop a = seg l a (a + w) ++ l.drop (a + w) := by
  unfold seg
  rw [show a + w - a = w by omega, ← List.drop_drop, List.take_append_drop]
theorem drop_get {l : List UInt8} {k : Nat} {b : UInt8} (h : l[k]? = some b) : l.drop k = b :: l.drop (k + 1) := by
  obtain ⟨hk, e⟩ := List.getElem?_eq_some_iff.1 h
  rw [List.drop_eq_getElem_cons hk, e]
theorem drop_last {l : List UInt8} {k : Nat} {b : UInt8} (h : l[k]? = some b) (hl : l.length = k + 1) : l.drop k = [b] := by
  rw [drop_get h, List.drop_eq_nil_of_le (by omega)]
theorem seg_len {l : List UInt8} {a w : Nat} (h : dn (l.drop a) = w) : (seg l a (a + w)).length = w := by
  have h1 := dn_le (l.drop a)
  unfold seg
  rw [List.length_take]; omega
theorem seg_get {l : List UInt8} {a w j : Nat} (hj : j < w) : (seg l a (a + w))[j]? = l[a + j]? := by
  unfold seg
  rw [List.getElem?_take_of_lt (by omega), List.getElem?_drop]

theorem seg_whole {l : List UInt8} {a w : Nat} (hw : dn (l.drop a) = w) (h1 : 1 ≤ w) (h2 : ¬ (1 < w ∧ l[a]? = some 48)) : wholeB (seg l a (a + w)) = true := by
  refine whole_of (seg_dig hw) (by rw [seg_len hw]; exact h1) ?_
  rw [seg_len hw, seg_get (by omega), Nat.add_zero]
  exact h2

theorem ref_okE {l : List UInt8} {below : Bool} {a w : Nat} (h : At l below a) (hw : dn (l.drop a) = w) (h1 : 1 ≤ w) (h2 : ¬ (1 < w ∧ l[a]? = some 48)) (h3 : PassE l a w) : rateR l = toldN below (10000 * refW 0 (seg l a (a + w)) + fracN 1000 []) := by
  rw [← told_eq]
  apply rateR_shape (pt := false)
  refine ⟨?_, seg_whole hw h1 h2, fun e => (by cases e), fun _ => rfl⟩
  conv => lhs; rw [at_split h]
  congr 1
  rw [seg_split l a w, drop_last h3.1 h3.2]
  simp

theorem ref_okC {l : List UInt8} {below : Bool} {a w f : Nat} (h : At l below a) (hw : dn (l.drop a) = w) (hf : dn (l.drop (a + w + 1)) = f) (h1 : 1 ≤ w) (h2 : ¬ (1 < w ∧ l[a]? = some 48)) (h3 : PassC l a w f) : rateR l = toldN below (10000 * refW 0 (seg l a (a + w)) + fracN 1000 (seg l (a + w + 1) (a + w + 1 + f))) := by
  rw [← told_eq]
  apply rateR_shape (pt := true)
  obtain ⟨c1, c2, c3, c4, c5, c6⟩ := h3
  refine ⟨?_, seg_whole hw h1 h2, fun _ => ?_, fun e => (by cases e)⟩
  · conv => lhs; rw [at_split h]
    congr 1
    rw [seg_split l a w, drop_get c1, seg_split l (a + w + 1) f, drop_last c6 c5]
    simp
  · refine frac_of (seg_dig hf) (by rw [seg_len hf]; exact c2) (by rw [seg_len hf]; exact c3) ?_
    rw [seg_len hf, seg_get (by omega), show a + w + 1 + (f - 1) = a + w + f by omega]
    exact c4

end Go.Proofs.YthdjpkpkkdnofabDoor
