/-
  What is proved: plain facts on bytes: the rate that a text tells, by rate's own way and by the document's way, is the same; what is told is parsed, and what is parsed was told. Conditions: none.
-/
import Derived.Test.YthdjpkpkkdnofabDoorRateMath
namespace Go.Proofs.YthdjpkpkkdnofabDoor
open Go Go.RowKit Go.Sort Go.Lib Go.Proofs

/-- How a right text is made. -/
def Shape (l : List UInt8) (below : Bool) (W F : List UInt8) (pt : Bool) : Prop :=
  l = (if below = true then [45] else []) ++ (W ++ (if pt = true then 46 :: F else []) ++ [37]) ∧ wholeB W = true ∧ (pt = true → fracB F = true) ∧ (pt = false → F = [])
/-- What a right text tells. -/
def total (W F : List UInt8) : Nat := 10000 * valN 0 W + fracN 1000 F
def told (below : Bool) (W F : List UInt8) : Int × Int :=
  if below = true ∧ total W F = 0 then (0, 3) else if 1000000000 < total W F then (0, 2) else ((if below = true then -(total W F : Int) else (total W F : Int)), 0)

theorem readV_cons (r : Int) (b : UInt8) (t : List UInt8) : readV r (b :: t) = if rightB r = true then readV (r * 10 + (b.toNat - 48)) t else r := by rw [readV]
theorem readV_append : ∀ (a b : List UInt8) (r : Int), readV r (a ++ b) = readV (readV r a) b
  | [], b, r => by rw [List.nil_append, readV]
  | x :: t, b, r => by
    rw [List.cons_append, readV_cons, readV_cons]
    split
    · exact readV_append t b _
    · rename_i h
      rw [readV_stay _ _ (by simpa using h)]
theorem readV_val : ∀ (l : List UInt8) (r : Nat), l.all isDig = true → (valN r l ≤ 1000000000 → readV r l = valN r l) ∧ (1000000000 < valN r l → 1000000000 < readV r l)
  | [], r, _ => by rw [valN_nil, readV]; exact ⟨fun _ => rfl, fun h => by omega⟩
  | b :: t, r, hl => by
    simp only [List.all_cons, Bool.and_eq_true] at hl
    obtain ⟨h1, h2⟩ := isDig_iff.1 hl.1
    rw [readV_cons, valN_cons]
    by_cases hr : rightB r = true
    · rw [if_pos hr]
      have ih := readV_val t (10 * r + (b.toNat - 48)) hl.2
      rw [show ((10 * r + (b.toNat - 48) : Nat) : Int) = (r : Int) * 10 + ((b.toNat : Int) - 48) by omega] at ih
      exact ih
    · rw [if_neg hr]
      have hr2 : 1000000000 < (r : Int) := by
        apply Int.not_le.1
        intro h
        exact hr (rightB_yes (by omega) h)
      have hg := valN_ge t (10 * r + (b.toNat - 48))
      exact ⟨fun h => by omega, fun _ => hr2⟩
theorem valN_total {W F : List UInt8} (hF : F.all isDig = true) (hl : F.length ≤ 4) : valN 0 (W ++ F ++ List.replicate (4 - F.length) 48) = total W F := by
  rw [List.append_assoc, valN_append, (frac_pad hF hl).2.2]; rfl
theorem rpRead_val {W F : List UInt8} (hW : W.all isDig = true) (hF : F.all isDig = true) (hl : F.length ≤ 4) : (total W F ≤ 1000000000 → rpRead W F = total W F) ∧ (1000000000 < total W F → 1000000000 < rpRead W F) := by
  have e : rpRead W F = readV 0 (W ++ F ++ List.replicate (4 - F.length) 48) := by
    unfold rpRead; rw [readV_append, readV_append]
  have hz : (List.replicate (4 - F.length) (48 : UInt8)).all isDig = true := by
    rw [List.all_eq_true]; intro x hx; rw [List.eq_of_mem_replicate hx]; rfl
  have h := readV_val (W ++ F ++ List.replicate (4 - F.length) 48) 0 (by rw [List.all_append, List.all_append, hW, hF, hz]; rfl)
  rw [valN_total hF hl] at h
  rw [e]
  exact h
theorem whole_zero {W : List UInt8} (h : wholeB W = true) (h0 : valN 0 W = 0) : W = [48] := by
  have := whole_dd h
  rw [h0, dd_cons] at this
  exact this.symm

theorem shape_frac {l W F : List UInt8} {below pt : Bool} (h : Shape l below W F pt) : F.all isDig = true ∧ F.length ≤ 4 := by
  cases pt with
  | true => exact frac_dig (h.2.2.1 rfl)
  | false => rw [h.2.2.2 rfl]; exact ⟨rfl, by simp⟩
theorem total_zero {l W F : List UInt8} {below pt : Bool} (h : Shape l below W F pt) : total W F = 0 ↔ (W = [48] ∧ pt = false) := by
  unfold total
  constructor
  · intro h0
    refine ⟨whole_zero h.2.1 (by omega), ?_⟩
    cases pt with
    | false => rfl
    | true =>
      have := (frac_told (h.2.2.1 rfl)).2
      omega
  · rintro ⟨rfl, rfl⟩
    rw [h.2.2.2 rfl]; decide
theorem cutDot_app : ∀ (W F : List UInt8), W.all isDig = true → cutDot (W ++ 46 :: F) = (W, F, true)
  | [], F, _ => by rw [List.nil_append]; unfold cutDot; rw [if_pos rfl]
  | b :: t, F, hl => by
    simp only [List.all_cons, Bool.and_eq_true] at hl
    have hb : b ≠ 46 := by intro e; rw [e] at hl; exact absurd hl.1 (by decide)
    rw [List.cons_append, cutDot, if_neg hb, cutDot_app t F hl.2]
theorem cutDot_none : ∀ (W : List UInt8), W.all isDig = true → cutDot W = (W, [], false)
  | [], _ => rfl
  | b :: t, hl => by
    simp only [List.all_cons, Bool.and_eq_true] at hl
    have hb : b ≠ 46 := by intro e; rw [e] at hl; exact absurd hl.1 (by decide)
    rw [cutDot, if_neg hb, cutDot_none t hl.2]
theorem cutDot_join : ∀ (l : List UInt8), l = (cutDot l).1 ++ (if (cutDot l).2.2 = true then 46 :: (cutDot l).2.1 else []) ∧ ((cutDot l).2.2 = false → (cutDot l).2.1 = [])
  | [] => by simp [cutDot]
  | b :: t => by
    have ih := cutDot_join t
    by_cases hb : b = 46
    · rw [cutDot, if_pos hb, hb]; simp
    · rw [cutDot, if_neg hb]
      refine ⟨?_, ih.2⟩
      show b :: t = b :: ((cutDot t).1 ++ _)
      rw [← ih.1]
theorem suffix_of {l : List UInt8} {b : UInt8} (h : hasSuffix l [b] = true) : l = trimSuffix l [b] ++ [b] := by
  have h2 := h
  unfold hasSuffix at h2
  have h3 : [b] <:+ l := by simpa using h2
  obtain ⟨t, rfl⟩ := h3
  unfold trimSuffix
  rw [h]
  simp
theorem suffix_yes (l : List UInt8) (b : UInt8) : hasSuffix (l ++ [b]) [b] = true ∧ trimSuffix (l ++ [b]) [b] = l := by
  have h : hasSuffix (l ++ [b]) [b] = true := by
    unfold hasSuffix
    simp
  refine ⟨h, ?_⟩
  unfold trimSuffix; rw [h]; simp
theorem prefix_of {l : List UInt8} : l = (if hasPrefix l [45] = true then [45] else []) ++ trimPrefix l [45] := by
  unfold trimPrefix
  cases h : hasPrefix l [45] with
  | false => simp
  | true =>
    cases l with
    | nil => cases h
    | cons a t =>
      have : a = 45 := by
        simp [hasPrefix] at h
        exact h.symm
      rw [this]; simp
theorem prefix_no {W l : List UInt8} (h : wholeB W = true) : hasPrefix (W ++ l) [45] = false ∧ trimPrefix (W ++ l) [45] = W ++ l := by
  have hd := whole_dig h
  have hp : hasPrefix (W ++ l) [45] = false := by
    cases W with
    | nil => cases h
    | cons a t =>
      simp only [List.all_cons, Bool.and_eq_true] at hd
      have : a ≠ 45 := by intro e; rw [e] at hd; exact absurd hd.1 (by decide)
      simp [hasPrefix, List.isPrefixOf, Ne.symm this]
  exact ⟨hp, by unfold trimPrefix; rw [hp]; simp⟩
theorem prefix_yes (l : List UInt8) : hasPrefix (45 :: l) [45] = true ∧ trimPrefix (45 :: l) [45] = l := by
  have hp : hasPrefix (45 :: l) [45] = true := by simp [hasPrefix]
  exact ⟨hp, by unfold trimPrefix; rw [hp]; simp⟩

/-- A text of the shape, read rate's way. -/
theorem rateR_shape {l W F : List UInt8} {below pt : Bool} (h : Shape l below W F pt) : rateR l = told below W F := by
  have hz := total_zero h
  have hF := shape_frac h
  obtain ⟨hl, hW, hp1, hp2⟩ := h
  have hWd := whole_dig hW
  have hr := rpRead_val hWd hF.1 hF.2
  have hne : l ≠ [] := by rw [hl]; simp
  have e1 : l = ((if below = true then [45] else []) ++ (W ++ (if pt = true then 46 :: F else []))) ++ [37] := by rw [hl]; simp
  have s1 := suffix_yes ((if below = true then [45] else []) ++ (W ++ (if pt = true then 46 :: F else []))) 37
  rw [← e1] at s1
  have p1 : hasPrefix ((if below = true then [45] else []) ++ (W ++ (if pt = true then 46 :: F else []))) [45] = below ∧ trimPrefix ((if below = true then [45] else []) ++ (W ++ (if pt = true then 46 :: F else []))) [45] = W ++ (if pt = true then 46 :: F else []) := by
    cases below with
    | true => exact prefix_yes _
    | false =>
      rw [if_neg (by simp), List.nil_append]
      exact prefix_no hW
  have c1 : cutDot (W ++ (if pt = true then 46 :: F else [])) = (W, F, pt) := by
    cases pt with
    | true => exact cutDot_app W F hWd
    | false =>
      rw [hp2 rfl]
      simp only [Bool.false_eq_true, if_false, List.append_nil]
      exact cutDot_none W hWd
  unfold rateR
  rw [if_neg hne, s1.1, s1.2, p1.1, p1.2, c1]
  unfold rpEnd told
  rw [hW]
  have hfr : (pt && !fracB F) = false := by
    cases pt with
    | true => rw [hp1 rfl]; rfl
    | false => rfl
  rw [hfr]
  have hb : (below && (W ++ (if pt = true then 46 :: F else []) == [48])) = decide (below = true ∧ total W F = 0) := by
    cases below with
    | false => simp
    | true =>
      simp only [Bool.true_and, true_and]
      rw [Bool.eq_iff_iff, beq_iff_eq, decide_eq_true_eq, hz]
      cases pt with
      | false => simp
      | true =>
        constructor
        · intro he
          have := congrArg List.length he
          cases W with
          | nil => cases hW
          | cons a t => simp at this
        · rintro ⟨_, h2⟩; cases h2
  rw [hb]
  simp only [Bool.not_true, Bool.false_or, decide_eq_true_eq]
  split
  · rfl
  · by_cases hbig : 1000000000 < total W F
    · have h2 := hr.2 hbig
      rw [if_neg (by rw [rightB_no (.inr (by omega))]; simp), if_pos hbig]
    · have h2 := hr.1 (by omega)
      rw [h2, if_pos (rightB_yes (by omega) (by omega)), if_neg hbig]
/-- A text that isn't of the shape. -/
theorem rateR_else {l : List UInt8} (hne : l ≠ []) (h : ∀ below W F pt, ¬ Shape l below W F pt) : rateR l = (0, 3) := by
  unfold rateR
  rw [if_neg hne]
  unfold rpEnd
  rw [if_pos]
  apply Classical.byContradiction
  intro hc
  simp only [Bool.not_eq_true, Bool.or_eq_false_iff] at hc
  obtain ⟨⟨⟨c1, c2⟩, c3⟩, c4⟩ := hc
  have h1 : hasSuffix l [37] = true := by simpa using c1
  have h2 : wholeB (cutDot (trimPrefix (trimSuffix l [37]) [45])).1 = true := by simpa using c2
  have j := cutDot_join (trimPrefix (trimSuffix l [37]) [45])
  refine h (hasPrefix (trimSuffix l [37]) [45]) (cutDot (trimPrefix (trimSuffix l [37]) [45])).1 (cutDot (trimPrefix (trimSuffix l [37]) [45])).2.1 (cutDot (trimPrefix (trimSuffix l [37]) [45])).2.2 ⟨?_, h2, ?_, j.2⟩
  · rw [← List.append_assoc, ← j.1, ← prefix_of]
    exact suffix_of h1
  · intro hp
    rw [hp] at c3
    simpa using c3

/-- The text of a right rate has the shape, and tells it. -/
theorem shape_text (r : Int) (hr : rightB r = true) : ∃ W F pt, Shape (rateText r) (decide (r < 0)) W F pt ∧ total W F = r.natAbs := by
  have hb : rateText r = (if decide (r < 0) = true then [45] else []) ++ rateBody r.natAbs := by
    unfold rateText; rw [if_pos hr]
    by_cases h : r < 0
    · simp [h]
    · simp [h]
  generalize r.natAbs = n at hb ⊢
  by_cases hz : n % 10000 = 0
  · refine ⟨decDigits (n / 10000), [], false, ⟨?_, dd_whole _, fun h => (by cases h), fun _ => rfl⟩, ?_⟩
    · rw [hb]; unfold rateBody; rw [hz, frac_zero]; simp
    · unfold total; rw [dd_val]; show 10000 * (n / 10000) + 0 = n; omega
  · obtain ⟨f1, f2⟩ := told_frac (n % 10000) (by omega) (by omega)
    refine ⟨decDigits (n / 10000), trimRightB (dig4 (n % 10000)) 48, true, ⟨?_, dd_whole _, fun _ => f1, fun h => (by cases h)⟩, ?_⟩
    · rw [hb]; unfold rateBody; rw [frac_some hz, dd_drop _ (by omega)]; simp
    · unfold total; rw [dd_val, f2]; omega
/-- What is told is parsed. -/
theorem parse_told (r : Int) (hr : rightB r = true) : rateR (rateText r) = (r, 0) := by
  obtain ⟨W, F, pt, hs, ht⟩ := shape_text r hr
  rw [rateR_shape hs]
  obtain ⟨h1, h2⟩ := rightB_iff.1 hr
  unfold told
  rw [ht]
  by_cases h : r < 0
  · rw [if_neg (by rintro ⟨_, h0⟩; omega), if_neg (by omega), if_pos (by simp [h])]
    rw [show -(r.natAbs : Int) = r by omega]
  · rw [if_neg (by rintro ⟨h0, _⟩; exact h (of_decide_eq_true h0)), if_neg (by omega), if_neg (by simp [h])]
    rw [show (r.natAbs : Int) = r by omega]
/-- What is parsed was told. -/
theorem told_parse (l : List UInt8) (x : Int) (h : rateR l = (x, 0)) : rateText x = l := by
  by_cases hne : l = []
  · rw [hne] at h
    have : rateR [] = (0, 10) := by unfold rateR; rw [if_pos rfl]
    rw [this] at h
    have := congrArg Prod.snd h
    simp at this
  by_cases hs : ∃ below W F pt, Shape l below W F pt
  case neg =>
    rw [rateR_else hne (fun b W F p hh => hs ⟨b, W, F, p, hh⟩)] at h
    have := congrArg Prod.snd h
    simp at this
  obtain ⟨below, W, F, pt, hs⟩ := hs
  rw [rateR_shape hs] at h
  unfold told at h
  by_cases c1 : below = true ∧ total W F = 0
  · rw [if_pos c1] at h
    have := congrArg Prod.snd h
    simp at this
  rw [if_neg c1] at h
  by_cases c2 : 1000000000 < total W F
  · rw [if_pos c2] at h
    have := congrArg Prod.snd h
    simp at this
  rw [if_neg c2] at h
  have hx : x = if below = true then -(total W F : Int) else (total W F : Int) := (congrArg Prod.fst h).symm
  have hF := shape_frac hs
  obtain ⟨hl, hW, hp1, hp2⟩ := hs
  have hF9 := (frac_pad hF.1 hF.2).2.1
  have q1 : total W F / 10000 = valN 0 W := by unfold total; omega
  have q2 : total W F % 10000 = fracN 1000 F := by unfold total; omega
  have hbody : rateBody (total W F) = W ++ (if pt = true then 46 :: F else []) ++ [37] := by
    unfold rateBody
    rw [q1, q2, whole_dd hW]
    cases pt with
    | true => rw [(frac_told (hp1 rfl)).1]; rfl
    | false => rw [hp2 rfl]; rfl
  cases below with
  | true =>
    have h0 : total W F ≠ 0 := fun e => c1 ⟨rfl, e⟩
    have hx2 : x = -(total W F : Int) := hx
    unfold rateText
    rw [if_pos (rightB_yes (by omega) (by omega)), if_pos (by omega), show x.natAbs = total W F by omega, hbody, hl]
    rfl
  | false =>
    have hx2 : x = (total W F : Int) := hx
    unfold rateText
    rw [if_pos (rightB_yes (by omega) (by omega)), if_neg (by omega), show x.natAbs = total W F by omega, hbody, hl]
    rfl

end Go.Proofs.YthdjpkpkkdnofabDoor
