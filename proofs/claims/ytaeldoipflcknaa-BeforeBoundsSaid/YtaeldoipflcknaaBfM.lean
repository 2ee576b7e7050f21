/-
  What is proved: what is taken of a gross, as plain functions on lists, and facts on them. Conditions: as each says.
-/
import Derived.Test.YtaeldoipflcknaaBfA
namespace Go.Proofs.Ytaeldoipflcknaa
open Go Go.RowKit Go.Lib Go.Proofs
open Ra (fitsB fitsB_iff)
set_option linter.unusedVariables false

/-! ### lists, place by place -/
abbrev d0 : ByteArray × Int := (⟨#[]⟩, 0)
theorem take_at {α : Type} (L : List α) (d : α) {k : Nat} (h : k < L.length) : L.take (k + 1) = L.take k ++ [L.getD k d] := by
  rw [List.take_succ_eq_append_getElem h, List.getD_eq_getElem?_getD, List.getElem?_eq_getElem h]; rfl
theorem getD_mem {α : Type} (L : List α) (d : α) {k : Nat} (h : k < L.length) : L.getD k d ∈ L := by
  rw [List.getD_eq_getElem?_getD, List.getElem?_eq_getElem h]; exact List.getElem_mem h
theorem fold_at {α β : Type} (f : β → α → β) (a : β) (L : List α) (d : α) {k : Nat} (h : k < L.length) : (L.take (k + 1)).foldl f a = f ((L.take k).foldl f a) (L.getD k d) := by
  rw [take_at L d h, List.foldl_append]; rfl
theorem fold_all {α β : Type} (f : β → α → β) (a : β) (L : List α) (k : Nat) : L.foldl f a = (L.drop k).foldl f ((L.take k).foldl f a) := by
  rw [← List.foldl_append, List.take_append_drop]
theorem hasI_append (L M : Ti) (s : ByteArray) : hasI (L ++ M) s = (hasI L s || hasI M s) := by simp [hasI]
theorem atI_append (L M : Ti) (s : ByteArray) : atI (L ++ M) s = if hasI L s = true then atI L s else atI M s := by
  induction L with
  | nil => simp [hasI]
  | cons p r ih =>
    rw [List.cons_append, atI, atI, ih]
    by_cases e : p.1 = s
    · rw [if_pos e, if_pos e, if_pos (show hasI (p :: r) s = true by simp [hasI, e])]
    · rw [if_neg e, if_neg e, show hasI (p :: r) s = hasI r s by simp [hasI, e]]
theorem hasI_one (p : ByteArray × Int) (s : ByteArray) : hasI [p] s = decide (p.1 = s) := by simp [hasI]
theorem at_hit {L : Ti} {k : Nat} (h : k < L.length) {s : ByteArray} (h0 : hasI (L.take k) s = false) (h1 : (L.getD k d0).1 = s) : atI L s = (L.getD k d0).2 := by
  have e : L = L.take (k + 1) ++ L.drop (k + 1) := (List.take_append_drop _ _).symm
  have hh : hasI (L.take (k + 1)) s = true := by rw [take_at L d0 h, hasI_append, hasI_one, decide_eq_true h1, Bool.or_true]
  have e2 : atI (L.take (k + 1)) s = (L.getD k d0).2 := by
    rw [take_at L d0 h, atI_append, h0, if_neg (by simp)]
    unfold atI
    rw [if_pos h1]
  calc atI L s = atI (L.take (k + 1) ++ L.drop (k + 1)) s := by rw [← e]
    _ = _ := by rw [atI_append, if_pos hh, e2]
theorem has_miss {L : Ti} {k : Nat} (h : k < L.length) {s : ByteArray} (h0 : hasI (L.take k) s = false) (h1 : (L.getD k d0).1 ≠ s) : hasI (L.take (k + 1)) s = false := by
  rw [take_at L d0 h, hasI_append, h0, hasI_one, decide_eq_false h1]; rfl
theorem del_at {L : Ti} {k : Nat} (h : k < L.length) (s : ByteArray) : delI (L.take (k + 1)) s = if (L.getD k d0).1 = s then delI (L.take k) s else delI (L.take k) s ++ [L.getD k d0] := by
  rw [take_at L d0 h]
  unfold delI
  rw [List.filter_append]
  by_cases e : (L.getD k d0).1 = s
  · rw [if_pos e, List.filter_cons_of_neg (by simpa using e)]; simp
  · rw [if_neg e, List.filter_cons_of_pos (by simpa using e)]; simp

/-! ### limits -/
abbrev Lm := ByteArray × Int × Int
abbrev dL : Lm := (⟨#[]⟩, 0, 0)
def okLm (l : Lm) : Bool := partB l.2.1 && fit0 l.2.2
def hasL (L : List Lm) (s : ByteArray) : Bool := L.any fun l => decide (l.1 = s)
def chkS (st : Int × List Lm) (l : Lm) : Int × List Lm :=
  if st.1 ≠ 0 then st else if nameB l.1 = false then (12, st.2) else if hasL st.2 l.1 = true then (7, st.2) else if okLm l = false then (2, st.2) else (0, st.2 ++ [l])
def chkF (L : List Lm) : Int × List Lm := L.foldl chkS (0, [])
def chkV (L : List Lm) : Int := if 64 < L.length then 5 else (chkF L).1
theorem chkS_stuck {st : Int × List Lm} (h : st.1 ≠ 0) : ∀ r : List Lm, r.foldl chkS st = st
  | [] => rfl
  | l :: r => by rw [List.foldl_cons, show chkS st l = st by unfold chkS; rw [if_pos h], chkS_stuck h r]
theorem chk_bad {L : List Lm} {k : Nat} (h : k < L.length) {e : Int} {M : List Lm} (h1 : chkS (chkF (L.take k)) (L.getD k dL) = (e, M)) (h2 : e ≠ 0) : (chkF L).1 = e := by
  unfold chkF at h1 ⊢
  rw [fold_all chkS _ L (k + 1), fold_at chkS _ L dL h, h1, chkS_stuck h2]
theorem chk_pre (L : List Lm) : ∀ k, k ≤ L.length → (chkF L).1 = 0 → chkF (L.take k) = (0, L.take k) := by
  intro k hk h0
  induction k with
  | zero => simp [chkF]
  | succ k ih =>
    have h1 := ih (by omega)
    unfold chkF at h1 ⊢
    rw [fold_at chkS _ L dL hk, h1]
    have hb := fun e M h1' => @chk_bad L k hk e M (by unfold chkF; rw [h1]; exact h1')
    unfold chkS at hb ⊢
    rw [if_neg (by simp)] at hb ⊢
    split
    · rename_i c; rw [if_pos c] at hb; have := hb 12 _ rfl (by omega); omega
    · rename_i c; rw [if_neg c] at hb
      split
      · rename_i c; rw [if_pos c] at hb; have := hb 7 _ rfl (by omega); omega
      · rename_i c; rw [if_neg c] at hb
        split
        · rename_i c; rw [if_pos c] at hb; have := hb 2 _ rfl (by omega); omega
        · rw [take_at L dL hk]
/-- Limits that were found right. -/
theorem chk_right {L : List Lm} (h : (chkF L).1 = 0) {k : Nat} (hk : k < L.length) : nameB (L.getD k dL).1 = true ∧ hasL (L.take k) (L.getD k dL).1 = false ∧ okLm (L.getD k dL) = true := by
  have h1 := chk_pre L k (by omega) h
  have h2 := chk_pre L (k + 1) hk h
  unfold chkF at h1 h2
  rw [fold_at chkS _ L dL hk, h1] at h2
  unfold chkS at h2
  rw [if_neg (by simp)] at h2
  split at h2
  · simp at h2
  · rename_i c
    split at h2
    · simp at h2
    · rename_i c2
      split at h2
      · simp at h2
      · rename_i c3
        exact ⟨by simpa using c, by simpa using c2, by simpa using c3⟩
def lmV (l : Lm) : Value := .agg #[.string l.1, .int .i64 l.2.1, .int .i64 l.2.2]
def lmT (L : List Lm) : Tb := L.map fun l => (l.1, lmV l)
theorem lmT_has (L : List Lm) (s : ByteArray) : hasT (lmT L) s = hasL L s := by
  unfold hasT lmT hasL
  rw [List.any_map]; rfl
theorem lmT_at {L : List Lm} {k : Nat} (h : k < L.length) (h1 : hasL (L.take k) (L.getD k dL).1 = false) : setT (lmT (L.take k)) (L.getD k dL).1 (lmV (L.getD k dL)) = lmT (L.take (k + 1)) := by
  rw [take_at L dL h]
  unfold setT
  have e : delT (lmT (L.take k)) (L.getD k dL).1 = lmT (L.take k) := by
    unfold delT
    rw [List.filter_eq_self]
    intro p hp
    unfold lmT at hp
    obtain ⟨l, hl, rfl⟩ := List.mem_map.1 hp
    simp only [decide_eq_true_eq]
    intro e
    rw [Bool.eq_false_iff] at h1
    exact h1 (List.any_eq_true.2 ⟨l, hl, by simpa using e⟩)
  rw [e]
  simp [lmT]

/-! ### what is taken -/
def capF (g so now : Int) (l : Lm) (c : Int) : Int :=
  if l.2.2 ≠ 0 then min (if l.2.1 ≠ 1000000 then min c (max 0 (partP (max 0 g) l.2.1 - now)) else c) (max 0 (l.2.2 - so - now)) else if l.2.1 ≠ 1000000 then min c (max 0 (partP (max 0 g) l.2.1 - now)) else c
def capS (g so now : Int) (s : ByteArray) (c : Int) (l : Lm) : Int := if l.1 = s then capF g so now l c else c
def capV (g so now : Int) (L : List Lm) (s : ByteArray) (c : Int) : Int := L.foldl (capS g so now s) c
abbrev St := Int × Int × Ti × Ti
def takeC (g : Int) (was : Ti) (L : List Lm) (left : Int) (here : Ti) (it : ByteArray × Int) : Int := capV g (atI was it.1) (atI here it.1) L it.1 (max 0 (min it.2 left))
def takeS (g : Int) (was : Ti) (L : List Lm) (st : St) (it : ByteArray × Int) : St :=
  if st.1 ≠ 0 then st else if nameB it.1 = false then (12, st.2) else if (fit0 it.2 && fit0 (atI was it.1)) = false then (2, st.2)
  else if 1125899906842624 - atI st.2.2.1 it.1 - takeC g was L st.2.1 st.2.2.1 it < atI was it.1 then (9, st.2)
  else (0, st.2.1 - takeC g was L st.2.1 st.2.2.1 it, setI st.2.2.1 it.1 (atI st.2.2.1 it.1 + takeC g was L st.2.1 st.2.2.1 it), if takeC g was L st.2.1 st.2.2.1 it = 0 then st.2.2.2 else st.2.2.2 ++ [(it.1, takeC g was L st.2.1 st.2.2.1 it)])
def takeF (g : Int) (was : Ti) (L : List Lm) (W : Ti) : St := W.foldl (takeS g was L) (0, g, [], [])
def takeE (g : Int) (was : Ti) (W : Ti) (L : List Lm) : Int := if fitsB g = false then 2 else if chkV L ≠ 0 then chkV L else if 64 < W.length then 5 else (takeF g was L W).1
def thenS (w : Ti) (p : ByteArray × Int) : Ti := setI w p.1 (atI w p.1 + p.2)
def thenV (was here : Ti) : Ti := here.foldl thenS was

theorem takeS_stuck {g : Int} {was : Ti} {L : List Lm} {st : St} (h : st.1 ≠ 0) : ∀ r : Ti, r.foldl (takeS g was L) st = st
  | [] => rfl
  | l :: r => by rw [List.foldl_cons, show takeS g was L st l = st by unfold takeS; rw [if_pos h], takeS_stuck h r]
theorem take_bad {g : Int} {was : Ti} {L : List Lm} {W : Ti} {k : Nat} (h : k < W.length) {e : Int} {M : Int × Ti × Ti} (h1 : takeS g was L (takeF g was L (W.take k)) (W.getD k d0) = (e, M)) (h2 : e ≠ 0) : (takeF g was L W).1 = e := by
  unfold takeF at h1 ⊢
  rw [fold_all _ _ W (k + 1), fold_at _ _ W d0 h, h1, takeS_stuck h2]

theorem capF_le {g so now : Int} {l : Lm} {c : Int} (hc : 0 ≤ c) : 0 ≤ capF g so now l c ∧ capF g so now l c ≤ c := by
  unfold capF; split <;> split <;> omega
theorem cap_le {g so now : Int} {s : ByteArray} : ∀ (L : List Lm) {c : Int}, 0 ≤ c → 0 ≤ capV g so now L s c ∧ capV g so now L s c ≤ c
  | [], c, hc => ⟨hc, Int.le_refl _⟩
  | l :: r, c, hc => by
    unfold capV
    rw [List.foldl_cons]
    have h1 : 0 ≤ capS g so now s c l ∧ capS g so now s c l ≤ c := by
      unfold capS
      split
      · exact capF_le hc
      · exact ⟨hc, Int.le_refl _⟩
    have h2 := cap_le (g := g) (so := so) (now := now) (s := s) r h1.1
    unfold capV at h2
    omega
theorem cap_not {g so now : Int} {s : ByteArray} : ∀ (L : List Lm) (c : Int), hasL L s = false → capV g so now L s c = c
  | [], c, _ => rfl
  | l :: r, c, h => by
    simp only [hasL, List.any_cons, Bool.or_eq_false_iff, decide_eq_false_iff_not] at h
    unfold capV
    rw [List.foldl_cons, show capS g so now s c l = c by unfold capS; rw [if_neg h.1]]
    exact cap_not r c h.2
/-- Of limits without a code twice just one caps. -/
theorem cap_one {L : List Lm} (h : (chkF L).1 = 0) {s : ByteArray} (hs : hasL L s = true) : ∃ l ∈ L, l.1 = s ∧ okLm l = true ∧ (∀ z, lkT (lmT L) s z = lmV l) ∧ (∀ g so now c, capV g so now L s c = capF g so now l c) ∧ ∀ m ∈ L, m.1 = s → m = l := by
  have key : ∀ k, k ≤ L.length → hasL (L.take k) s = true → ∃ l ∈ L, l.1 = s ∧ okLm l = true ∧ (∀ z, lkT (lmT (L.take k)) s z = lmV l) ∧ (∀ g so now c, capV g so now (L.take k) s c = capF g so now l c) ∧ ∀ m ∈ L.take k, m.1 = s → m = l := by
    intro k
    induction k with
    | zero => intro _ h0; simp [hasL] at h0
    | succ k ih =>
      intro hk h1
      obtain ⟨_, r2, r3⟩ := chk_right h (show k < L.length from hk)
      have et := take_at L dL (show k < L.length from hk)
      generalize L.getD k dL = x at r2 r3 et
      have hx : x ∈ L := List.mem_of_mem_take (i := k + 1) (by rw [et]; simp)
      by_cases e : x.1 = s
      · subst e
        refine ⟨x, hx, rfl, r3, fun z => ?_, fun g so now c => ?_, fun m hm e => ?_⟩
        · rw [et]
          unfold lmT
          rw [List.map_append, lkT_append, show hasT (List.map (fun l => (l.1, lmV l)) (L.take k)) x.1 = false by rw [← lmT, lmT_has, r2], if_neg (by simp)]
          simp [lkT]
        · rw [et]
          unfold capV
          rw [List.foldl_append, show (L.take k).foldl (capS g so now x.1) c = c from cap_not _ _ r2]
          show capS g so now x.1 c x = _
          unfold capS
          rw [if_pos rfl]
        · rw [et] at hm
          rcases List.mem_append.1 hm with hm | hm
          · exfalso
            rw [Bool.eq_false_iff] at r2
            exact r2 (List.any_eq_true.2 ⟨m, hm, by simpa using e⟩)
          · simpa using hm
      · have h2 : hasL (L.take k) s = true := by
          rw [et] at h1
          simp only [hasL, List.any_append, List.any_cons, List.any_nil, Bool.or_false] at h1 ⊢
          rw [decide_eq_false e, Bool.or_false] at h1
          exact h1
        obtain ⟨l, hl, e1, e2, e3, e4, e5⟩ := ih (by omega) h2
        refine ⟨l, hl, e1, e2, fun z => ?_, fun g so now c => ?_, fun m hm em => ?_⟩
        · rw [et]
          unfold lmT
          rw [List.map_append, lkT_append, if_pos (by rw [← lmT, lmT_has, h2])]
          exact e3 z
        · rw [et]
          unfold capV
          rw [List.foldl_append]
          show capS g so now s ((L.take k).foldl (capS g so now s) c) x = _
          unfold capS
          rw [if_neg e]
          exact e4 g so now c
        · rw [et] at hm
          rcases List.mem_append.1 hm with hm | hm
          · exact e5 m hm em
          · exact absurd (by rw [← em, List.mem_singleton.1 hm]) e
  have := key L.length (Nat.le_refl _) (by rw [List.take_length]; exact hs)
  rwa [List.take_length] at this

/-- What holds while items are taken: of one code, and of what is left. -/
def Inv (g : Int) (was : Ti) (L : List Lm) (left : Int) (here : Ti) : Prop :=
  left ≤ g ∧ ∀ s, 0 ≤ atI here s ∧ atI here s + max 0 left ≤ max 0 g ∧ (∀ l ∈ L, l.1 = s → l.2.1 ≠ 1000000 → atI here s ≤ partP (max 0 g) l.2.1) ∧ (hasI here s = true → 0 ≤ atI was s ∧ atI was s + atI here s ≤ 1125899906842624)
theorem inv_start (g : Int) (was : Ti) {L : List Lm} (hg : fitsB g = true) (h : (chkF L).1 = 0) : Inv g was L g [] := by
  refine ⟨Int.le_refl _, fun s => ⟨Int.le_refl _, by show (0 : Int) + _ ≤ _; omega, fun l hl e _ => ?_, fun h => by simp [hasI] at h⟩⟩
  obtain ⟨l', hl', e1, e2, -, -, e5⟩ := cap_one h (s := s) (List.any_eq_true.2 ⟨l, hl, by simpa using e⟩)
  rw [e5 l hl e]
  have := fitsB_iff.1 hg
  simp only [okLm, Bool.and_eq_true] at e2
  exact (partP_bd (by omega) (by omega) e2.1).1
theorem takeC_bd {g : Int} {was : Ti} {L : List Lm} {left : Int} {here : Ti} {it : ByteArray × Int} : 0 ≤ takeC g was L left here it ∧ takeC g was L left here it ≤ max 0 (min it.2 left) := cap_le L (by omega)
theorem inv_step {g : Int} {was : Ti} {L : List Lm} {left : Int} {here : Ti} (hi : Inv g was L left here) (h : (chkF L).1 = 0) {it : ByteArray × Int} (h0 : fit0 (atI was it.1) = true)
    (h9 : ¬ 1125899906842624 - atI here it.1 - takeC g was L left here it < atI was it.1) : Inv g was L (left - takeC g was L left here it) (setI here it.1 (atI here it.1 + takeC g was L left here it)) := by
  obtain ⟨c0, c1⟩ := takeC_bd (g := g) (was := was) (L := L) (left := left) (here := here) (it := it)
  have hc : ∀ l ∈ L, l.1 = it.1 → l.2.1 ≠ 1000000 → takeC g was L left here it ≤ max 0 (partP (max 0 g) l.2.1 - atI here it.1) := by
    intro l hl e hm
    obtain ⟨l', hl', e1, e2, -, e4, e5⟩ := cap_one h (s := it.1) (List.any_eq_true.2 ⟨l, hl, by simpa using e⟩)
    obtain rfl := e5 l hl e
    unfold takeC
    rw [e4]
    unfold capF
    rw [if_pos hm]
    split <;> omega
  generalize takeC g was L left here it = c at c0 c1 hc h9 ⊢
  obtain ⟨hl, hi⟩ := hi
  refine ⟨by omega, fun s => ?_⟩
  rw [atI_set, hasI_set]
  obtain ⟨i0, i1, i2, i3⟩ := hi s
  by_cases e : s = it.1
  · subst e
    rw [if_pos rfl]
    have := fit0_iff.1 h0
    refine ⟨by omega, by omega, fun l hl e hm => ?_, fun _ => ⟨this.1, by omega⟩⟩
    have a1 := hc l hl e hm
    have a2 := i2 l hl e hm
    omega
  · rw [if_neg e, decide_eq_false e, Bool.or_false]
    exact ⟨i0, by omega, i2, i3⟩
theorem take_pre {g : Int} {was : Ti} {L : List Lm} {W : Ti} (h : (takeF g was L W).1 = 0) {k : Nat} (hk : k ≤ W.length) : (takeF g was L (W.take k)).1 = 0 := by
  rcases Decidable.em ((takeF g was L (W.take k)).1 = 0) with h1 | h1
  · exact h1
  · exfalso
    apply h1
    rw [← h]
    unfold takeF at h1 ⊢
    rw [fold_all _ _ W k, takeS_stuck h1]
theorem take_ok {g : Int} {was : Ti} {L : List Lm} {W : Ti} (h : (takeF g was L W).1 = 0) {k : Nat} (hk : k < W.length) :
    nameB (W.getD k d0).1 = true ∧ fit0 (W.getD k d0).2 = true ∧ fit0 (atI was (W.getD k d0).1) = true ∧ ¬ (1125899906842624 - atI (takeF g was L (W.take k)).2.2.1 (W.getD k d0).1 - takeC g was L (takeF g was L (W.take k)).2.1 (takeF g was L (W.take k)).2.2.1 (W.getD k d0) < atI was (W.getD k d0).1) := by
  have h0 := take_pre h (show k ≤ W.length by omega)
  have h1 := take_pre h (show k + 1 ≤ W.length by omega)
  unfold takeF at h1
  rw [fold_at _ _ W d0 hk] at h1
  change (takeS g was L (takeF g was L (W.take k)) (W.getD k d0)).1 = 0 at h1
  unfold takeS at h1
  rw [if_neg (by simpa using h0)] at h1
  split at h1
  · simp at h1
  · rename_i c1
    split at h1
    · simp at h1
    · rename_i c2
      split at h1
      · simp at h1
      · rename_i c3
        simp only [Bool.not_eq_false, Bool.and_eq_true] at c1 c2
        exact ⟨c1, c2.1, c2.2, c3⟩
/-- Through all rounds. -/
theorem inv_at {g : Int} {was : Ti} {L : List Lm} {W : Ti} (hg : fitsB g = true) (hL : (chkF L).1 = 0) : ∀ k, k ≤ W.length → (takeF g was L (W.take k)).1 = 0 → Inv g was L (takeF g was L (W.take k)).2.1 (takeF g was L (W.take k)).2.2.1 := by
  intro k
  induction k with
  | zero => intro _ _; exact inv_start g was hg hL
  | succ k ih =>
    intro hk h1
    have hk' : k < W.length := hk
    have h0 : (takeF g was L (W.take k)).1 = 0 := by
      have := take_pre (W := W.take (k + 1)) h1 (k := k) (by simp; omega)
      rwa [List.take_take, Nat.min_eq_left (by omega)] at this
    have hi := ih (by omega) h0
    unfold takeF at h1 ⊢
    rw [fold_at _ _ W d0 hk'] at h1 ⊢
    change (takeS g was L (takeF g was L (W.take k)) (W.getD k d0)).1 = 0 at h1
    change Inv g was L (takeS g was L (takeF g was L (W.take k)) (W.getD k d0)).2.1 (takeS g was L (takeF g was L (W.take k)) (W.getD k d0)).2.2.1
    generalize takeF g was L (W.take k) = st at h0 h1 hi ⊢
    generalize W.getD k d0 = it at h1 ⊢
    unfold takeS at h1 ⊢
    rw [if_neg (by simpa using h0)] at h1 ⊢
    split at h1
    · simp at h1
    · rename_i c1
      rw [if_neg c1]
      split at h1
      · simp at h1
      · rename_i c2
        rw [if_neg c2]
        split at h1
        · simp at h1
        · rename_i c3
          rw [if_neg c3]
          simp only [Bool.not_eq_false, Bool.and_eq_true] at c2
          exact inv_step hi hL c2.2 c3

/-- What is taken so far, by a list, is told by the one and by the other. -/
theorem then_is : ∀ (here was : Ti), UqI here → ∀ s, hasI (thenV was here) s = (hasI was s || hasI here s) ∧ atI (thenV was here) s = atI was s + atI here s
  | [], was, _, s => ⟨by simp [thenV, hasI], by simp [thenV, atI]⟩
  | p :: r, was, h, s => by
    obtain ⟨h1, h2⟩ := List.pairwise_cons.1 h
    have ih := then_is r (thenS was p) h2 s
    unfold thenV at ih ⊢
    rw [List.foldl_cons]
    refine ⟨ih.1.trans ?_, ih.2.trans ?_⟩
    · unfold thenS
      rw [hasI_set]
      have : hasI (p :: r) s = (decide (s = p.1) || hasI r s) := by
        simp only [hasI, List.any_cons]
        congr 1
        exact decide_eq_decide.2 ⟨fun e => e.symm, fun e => e.symm⟩
      rw [this, Bool.or_assoc]
    · unfold thenS
      rw [atI_set, atI]
      by_cases e : s = p.1
      · subst e
        have hn : hasI r p.1 = false := by
          rw [Bool.eq_false_iff]; intro hh
          obtain ⟨q, hq, e⟩ := List.any_eq_true.1 hh
          exact h1 q hq (by simpa using (of_decide_eq_true e).symm)
        rw [if_pos rfl, if_pos rfl, atI_not hn]; omega
      · rw [if_neg e, if_neg (fun h => e h.symm)]
theorem then_uq : ∀ (here was : Ti), UqI was → UqI (thenV was here)
  | [], _, h => h
  | p :: r, was, h => by
    unfold thenV
    rw [List.foldl_cons]
    exact then_uq r _ (h.set _ _)
theorem here_uq (g : Int) (was : Ti) (L : List Lm) : ∀ (W : Ti) (st : St), UqI st.2.2.1 → UqI (W.foldl (takeS g was L) st).2.2.1
  | [], _, h => h
  | p :: r, st, h => by
    rw [List.foldl_cons]
    refine here_uq g was L r _ ?_
    unfold takeS
    split
    · exact h
    · split
      · exact h
      · split
        · exact h
        · split
          · exact h
          · exact h.set _ _

end Go.Proofs.Ytaeldoipflcknaa
