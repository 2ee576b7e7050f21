/-
  What is proved: plain facts on bytes: which texts the document's own Parse of a rate lets pass, place by place, and that they are those of the shape that rate.Parse lets pass. Conditions: none.
-/
import Derived.Test.YthdjpkpkkdnofabDoorRateBack
namespace Go.Proofs.YthdjpkpkkdnofabDoor
open Go Go.RowKit Go.Sort Go.Lib Go.Proofs

/-- How many digits a text begins with. -/
def dn (l : List UInt8) : Nat := (l.takeWhile isDig).length
theorem dn_nil : dn [] = 0 := rfl
theorem dn_yes {b : UInt8} {t : List UInt8} (h : isDig b = true) : dn (b :: t) = dn t + 1 := by unfold dn; rw [List.takeWhile_cons, if_pos h]; rfl
theorem dn_no {b : UInt8} {t : List UInt8} (h : isDig b = false) : dn (b :: t) = 0 := by unfold dn; rw [List.takeWhile_cons, if_neg (by rw [h]; simp)]; rfl
theorem dn_le (l : List UInt8) : dn l ≤ l.length := (List.takeWhile_sublist _).length_le
theorem dn_app : ∀ (W t : List UInt8), W.all isDig = true → dn (W ++ t) = W.length + dn t
  | [], t, _ => by simp
  | b :: r, t, h => by
    simp only [List.all_cons, Bool.and_eq_true] at h
    rw [List.cons_append, dn_yes h.1, dn_app r t h.2]; simp; omega
theorem dn_take : ∀ (l : List UInt8), (l.take (dn l)).all isDig = true
  | [] => rfl
  | b :: r => by
    cases h : isDig b with
    | true => rw [dn_yes h, List.take_succ_cons, List.all_cons, h, dn_take r]; rfl
    | false => rw [dn_no h]; rfl

/-- A piece of a text. -/
def seg (l : List UInt8) (k e : Nat) : List UInt8 := (l.drop k).take (e - k)
theorem seg_end (l : List UInt8) (k : Nat) : seg l k k = [] := by unfold seg; simp
theorem seg_cons {d : ByteArray} {k e : Nat} (h : k < e) (hk : k < d.size) : seg d.data.toList k e = d[k] :: seg d.data.toList (k + 1) e := by
  unfold seg
  rw [List.drop_eq_getElem_cons (by rw [size_len]; exact hk)]
  obtain ⟨m, hm⟩ : ∃ m, e - k = m + 1 := ⟨e - k - 1, by omega⟩
  rw [hm, List.take_succ_cons, show e - (k + 1) = m by omega]
  rfl
theorem seg_dig {l : List UInt8} {a n : Nat} (h : dn (l.drop a) = n) : (seg l a (a + n)).all isDig = true := by
  unfold seg
  rw [show a + n - a = n by omega, ← h]
  exact dn_take _
theorem seg_mem {l : List UInt8} {a e k : Nat} (h : (seg l a e).all isDig = true) (h1 : a ≤ k) (h2 : k < e) (hk : k < l.length) : isDig l[k] = true := by
  refine List.all_eq_true.1 h _ ?_
  unfold seg
  rw [List.mem_iff_getElem?]
  refine ⟨k - a, ?_⟩
  rw [List.getElem?_take_of_lt (by omega), List.getElem?_drop, show a + (k - a) = k by omega, List.getElem?_eq_getElem hk]

/-- The whole number as the document reads it: it stops where it is too great. -/
def refW (z : Nat) (l : List UInt8) : Nat := l.foldl (fun n b => if n < 1000000 then 10 * n + (b.toNat - 48) else n) z
theorem refW_nil (z : Nat) : refW z [] = z := rfl
theorem refW_cons (z : Nat) (b : UInt8) (t : List UInt8) : refW z (b :: t) = refW (if z < 1000000 then 10 * z + (b.toNat - 48) else z) t := by unfold refW; rw [List.foldl_cons]
theorem refW_stay : ∀ (l : List UInt8) (z : Nat), 1000000 ≤ z → refW z l = z
  | [], z, _ => rfl
  | b :: t, z, h => by rw [refW_cons, if_neg (by omega)]; exact refW_stay t z h
theorem refW_val : ∀ (l : List UInt8) (z : Nat), (valN z l < 1000000 → refW z l = valN z l) ∧ (1000000 ≤ valN z l → 1000000 ≤ refW z l)
  | [], z => by rw [refW_nil, valN_nil]; exact ⟨fun _ => rfl, fun h => h⟩
  | b :: t, z => by
    rw [refW_cons, valN_cons]
    by_cases h : z < 1000000
    · rw [if_pos h]; exact refW_val t _
    · rw [if_neg h, refW_stay t z (by omega)]
      have := valN_ge t (10 * z + (b.toNat - 48))
      exact ⟨fun h2 => by omega, fun _ => by omega⟩
theorem refW_le : ∀ (l : List UInt8) (z : Nat), l.all isDig = true → z ≤ 10000009 → refW z l ≤ 10000009
  | [], z, _, h => h
  | b :: t, z, hl, h => by
    simp only [List.all_cons, Bool.and_eq_true] at hl
    obtain ⟨h1, h2⟩ := isDig_iff.1 hl.1
    rw [refW_cons]
    refine refW_le t _ hl.2 ?_
    split <;> omega
/-- What the document tells of a right text. -/
def toldN (below : Bool) (n : Nat) : Int × Int :=
  if below = true ∧ n = 0 then (0, 3) else if 1000000000 < n then (0, 2) else ((if below = true then -(n : Int) else (n : Int)), 0)
theorem told_eq (below : Bool) (W F : List UInt8) : told below W F = toldN below (10000 * refW 0 W + fracN 1000 F) := by
  have h := refW_val W 0
  by_cases hv : valN 0 W < 1000000
  · rw [h.1 hv]; rfl
  · have h2 := h.2 (by omega)
    have e1 : 1000000000 < total W F := by unfold total; omega
    have e2 : 1000000000 < 10000 * refW 0 W + fracN 1000 F := by omega
    unfold told toldN
    rw [if_neg (by rintro ⟨_, h0⟩; omega), if_pos e1, if_neg (by rintro ⟨_, h0⟩; omega), if_pos e2]

theorem whole_pos {W : List UInt8} (h : wholeB W = true) : 1 ≤ W.length := by
  cases W with
  | nil => cases h
  | cons a t => simp
theorem whole_head {W : List UInt8} (h : wholeB W = true) (h1 : 1 < W.length) : W[0]? ≠ some 48 := by
  intro e
  unfold wholeB at h
  simp only [Bool.or_eq_true, Bool.and_eq_true] at h
  rcases h with h | h
  · rw [beq_iff_eq.1 h] at h1; simp at h1
  · rw [List.head?_eq_getElem?, e] at h; simp at h
theorem whole_of {W : List UInt8} (hd : W.all isDig = true) (h1 : 1 ≤ W.length) (h2 : ¬ (1 < W.length ∧ W[0]? = some 48)) : wholeB W = true := by
  cases W with
  | nil => simp at h1
  | cons a t =>
    unfold wholeB digB
    rw [hd]
    by_cases ha : a = 48
    · cases t with
      | nil => rw [ha]; rfl
      | cons b r => exact absurd ⟨by simp, by rw [ha]; rfl⟩ h2
    · simp [ha]
theorem frac_of {F : List UInt8} (hd : F.all isDig = true) (h1 : 1 ≤ F.length) (h4 : F.length ≤ 4) (h2 : ¬ F[F.length - 1]? = some 48) : fracB F = true := by
  cases F with
  | nil => simp at h1
  | cons a t =>
    unfold fracB digB
    rw [hd, decide_eq_true h4, List.getLast?_eq_getElem?, beq_eq_false_iff_ne.2 h2]
    rfl
theorem frac_last {F : List UInt8} (h : fracB F = true) : 1 ≤ F.length ∧ F.length ≤ 4 ∧ F[F.length - 1]? ≠ some 48 := by
  have hd := frac_dig h
  unfold fracB at h
  simp only [Bool.and_eq_true] at h
  refine ⟨?_, hd.2, ?_⟩
  · cases F with
    | nil => simp [digB] at h
    | cons a t => simp
  · intro e
    rw [List.getLast?_eq_getElem?, e] at h
    simp at h

/-- What a text of the shape has at each place. -/
theorem shape_pack {r W F : List UInt8} {pt : Bool} (hr : r = W ++ (if pt = true then 46 :: F else []) ++ [37]) (hW : wholeB W = true) (hp1 : pt = true → fracB F = true) :
    dn r = W.length ∧ 1 ≤ W.length ∧ (1 < W.length → r[0]? ≠ some 48) ∧
    ((pt = true ∧ r[W.length]? = some 46 ∧ dn (r.drop (W.length + 1)) = F.length ∧ 1 ≤ F.length ∧ F.length ≤ 4 ∧ r[W.length + F.length]? ≠ some 48 ∧ r.length = W.length + 1 + F.length + 1 ∧ r[W.length + 1 + F.length]? = some 37) ∨
     (pt = false ∧ r[W.length]? = some 37 ∧ r.length = W.length + 1)) := by
  have hd := whole_dig hW
  have hpos := whole_pos hW
  have hh : 1 < W.length → r[0]? ≠ some 48 := by
    intro h1 e
    apply whole_head hW h1
    rw [← e, hr, List.append_assoc, List.getElem?_append_left (by omega)]
  cases pt with
  | true =>
    have hf := hp1 rfl
    have hfd := (frac_dig hf).1
    obtain ⟨f1, f2, f3⟩ := frac_last hf
    have hr2 : r = W ++ 46 :: (F ++ [37]) := by rw [hr]; simp
    have g : ∀ j, r[W.length + 1 + j]? = (F ++ [37])[j]? := by
      intro j
      rw [hr2, List.getElem?_append_right (by omega), show W.length + 1 + j - W.length = j + 1 by omega, List.getElem?_cons_succ]
    refine ⟨?_, hpos, hh, .inl ⟨rfl, ?_, ?_, f1, f2, ?_, ?_, ?_⟩⟩
    · rw [hr2, dn_app W _ hd, dn_no (by decide)]; omega
    · rw [hr2, List.getElem?_append_right (Nat.le_refl _)]; simp
    · have e : r.drop (W.length + 1) = F ++ [37] := by
        rw [hr2, ← List.drop_drop, List.drop_left]; rfl
      rw [e, dn_app F _ hfd, dn_no (by decide)]; omega
    · have := g (F.length - 1)
      rw [show W.length + 1 + (F.length - 1) = W.length + F.length by omega] at this
      rw [this, List.getElem?_append_left (by omega)]
      exact f3
    · rw [hr2]; simp; omega
    · rw [g, List.getElem?_append_right (Nat.le_refl _)]; simp
  | false =>
    have hr2 : r = W ++ [37] := by rw [hr]; simp
    refine ⟨?_, hpos, hh, .inr ⟨rfl, ?_, ?_⟩⟩
    · rw [hr2, dn_app W _ hd, dn_no (by decide)]; omega
    · rw [hr2, List.getElem?_append_right (Nat.le_refl _)]; simp
    · rw [hr2]; simp

end Go.Proofs.YthdjpkpkkdnofabDoor
