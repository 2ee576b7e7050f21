/-
  What is proved: plain facts on where words stand, and which of them are names and numbers. Conditions: none.
-/
import Derived.Test.YtlfcmelencdghaaDoorLxP
namespace Go.Proofs.YtlfcmelencdghaaDoor
open Go Go.RowKit Go.Lib Go.Proofs
set_option linter.unusedVariables false

/-- Words stand in a text behind a place, each behind the other, with blanks alone between. -/
def Placed (s : List UInt8) : Nat → List To → Prop
  | b, [] => b = s.length
  | b, t :: r => b ≤ t.at' ∧ t.at' + t.text.length ≤ s.length ∧ (s.drop t.at').take t.text.length = t.text ∧ (∀ i, b ≤ i → i < t.at' → s[i]? = some 32) ∧ Placed s (t.at' + t.text.length) r
theorem placed_of (s : List UInt8) : ∀ (n a b : Nat), s.length ≤ a + n → a ≤ s.length → b ≤ a → (∀ i, b ≤ i → i < a → s[i]? = some 32) → (lexL a (s.drop a)).e = 0 → Placed s b (lexL a (s.drop a)).l := by
  intro n
  induction n with
  | zero =>
    intro a b h1 h2 hb hbl he
    obtain rfl : a = s.length := by omega
    rw [List.drop_length, lexL_nil]
    exact ⟨hb, by simp, by simp, hbl, by simp [Placed]⟩
  | succ n ih =>
    intro a b h1 h2 hb hbl he
    by_cases hlt : a < s.length
    · have hd : s.drop a = s[a] :: s.drop (a + 1) := List.drop_eq_getElem_cons hlt
      cases hx : isBl s[a]
      case true =>
        rw [hd, lexL_blank hx] at he ⊢
        refine ih (a + 1) b (by omega) (by omega) (by omega) (fun i h3 h4 => ?_) he
        by_cases e : i = a
        · subst e
          rw [List.getElem?_eq_getElem hlt]
          have : s[i] = 32 := UInt8.toNat_inj.1 (by simpa [isBl] using hx)
          rw [this]
        · exact hbl i h3 (by omega)
      case false =>
        by_cases hk : (tok (s[a] :: s.drop (a + 1))).e = 0
        · have ho := tok_ok hk
          rw [hd, lexL_ok hx hk] at he ⊢
          rw [← hd] at he ho ⊢
          rw [List.length_drop] at ho
          generalize tok (s.drop a) = T at he ho ⊢
          have he2 : (lexL (a + T.n) ((s.drop a).drop T.n)).e = 0 := by
            unfold catA at he
            split at he
            · assumption
            · exact he
          rw [List.drop_drop] at he2 ⊢
          have hi := ih (a + T.n) (a + T.n) (by omega) (by omega) (Nat.le_refl _) (fun i h3 h4 => by omega) he2
          unfold catA
          rw [if_pos he2]
          have hl : ((s.drop a).take T.n).length = T.n := by rw [List.length_take, List.length_drop]; omega
          refine ⟨hb, by dsimp only; rw [hl]; omega, by dsimp only; rw [hl], hbl, ?_⟩
          dsimp only
          rw [hl]; exact hi
        · rw [hd, lexL_bad hx hk] at he
          exact absurd he hk
    · obtain rfl : a = s.length := by omega
      rw [List.drop_length, lexL_nil]
      exact ⟨hb, by simp, by simp, hbl, by simp [Placed]⟩

/-- What a word's kind says of its text. -/
def KindOk (t : To) : Prop := nameB t.text = decide (t.kind = 1) ∧ decide (noE t.text = 0) = decide (t.kind = 2)
theorem tok_kind {l : List UInt8} (h : (tok l).e = 0) : (tok l).kind = 1 ∨ (tok l).kind = 2 ∨ (tok l).kind = 3 := by
  match l with
  | [] => simp [tok] at h
  | b :: r =>
    rw [tok_cons] at h ⊢
    by_cases h1 : isLt b = true
    · rw [if_pos h1] at h ⊢
      split at h
      · cases h
      · rename_i h2; rw [if_neg h2]; exact .inl rfl
    · rw [if_neg h1] at h ⊢
      by_cases h2 : isDg b = true
      · rw [if_pos h2] at h ⊢
        by_cases h3 : badE (b :: r) = true
        · rw [if_pos h3] at h; cases h
        · rw [if_neg h3] at h ⊢
          by_cases h4 : 1000000000000000000 < numV (b :: r)
          · rw [if_pos h4] at h; cases h
          · rw [if_neg h4]; exact .inr (.inl rfl)
      · rw [if_neg h2] at h ⊢
        by_cases h3 : isSg b = true
        · rw [if_pos h3]; exact .inr (.inr rfl)
        · rw [if_neg h3] at h; cases h
theorem lt_not_dg {b : UInt8} (h : isLt b = true) : isDg b = false := by
  simp [isLt] at h; simp [isDg]; omega
theorem good_kind {t : To} (h : Good t) : KindOk t ∧ t.kind ≠ 0 := by
  obtain ⟨h1, h2, b, r, h3, h4⟩ := h
  have hk := tok_kind (l := t.text) (by rw [h2])
  rw [h2] at hk
  dsimp only at hk
  refine ⟨⟨?_, ?_⟩, by omega⟩
  · unfold nameB
    rw [h2]
    have : t.text.isEmpty = false := by rw [h3]; rfl
    rw [this]; simp
  · rw [Bool.eq_iff_iff, decide_eq_true_eq, decide_eq_true_eq]
    have h2' := h2
    rw [h3, tok_cons, ← h3] at h2'
    by_cases hd : isDg b = true
    · have hl : isLt b = false := by
        cases e : isLt b
        · rfl
        · rw [lt_not_dg e] at hd; cases hd
      rw [hl, if_neg (by simp), if_pos hd] at h2'
      by_cases hb : badE t.text = true
      · rw [if_pos hb] at h2'; injection h2' with _ _ e; cases e
      · rw [if_neg hb] at h2'
        by_cases hv : 1000000000000000000 < numV t.text
        · rw [if_pos hv] at h2'; injection h2' with _ _ e; cases e
        · rw [if_neg hv] at h2'
          injection h2' with e1 e2 e3
          have hr0 : ¬ runL isDg t.text = 0 := by rw [h3]; simp [runL, hd]
          have hn : isNumB t.text = true := isNum_iff.2 ⟨hr0, by simpa using hb, e2⟩
          unfold noE
          rw [if_pos hn, if_neg hv]
          exact ⟨fun _ => e1.symm, fun _ => rfl⟩
    · have hr0 : runL isDg t.text = 0 := by rw [h3]; simp [runL, hd]
      have hn : isNumB t.text = false := by unfold isNumB; rw [hr0]; rfl
      unfold noE
      rw [hn]
      refine ⟨fun e => by simp at e, fun e => ?_⟩
      exfalso
      by_cases hl : isLt b = true
      · rw [if_pos hl] at h2'
        split at h2'
        · injection h2' with _ _ e3; cases e3
        · injection h2' with e1 _ _; omega
      · rw [if_neg hl, if_neg hd] at h2'
        split at h2'
        · injection h2' with e1 _ _; omega
        · injection h2' with _ _ e3; cases e3
theorem end_kind (n : Nat) : KindOk ⟨0, [], n⟩ := by
  refine ⟨rfl, ?_⟩
  have : noE [] = 3 := by unfold noE isNumB; simp [runL]
  rw [show (⟨0, [], n⟩ : To).text = [] from rfl, this]; rfl
/-- Each word's facts, by its place in the list. -/
theorem goods_at {L : List To} (h : Goods L) {k : Nat} (hk : k < L.length) : KindOk (L.getD k noTo) ∧ (decide ((L.getD k noTo).kind = 0) = decide (k + 1 = L.length)) ∧ (k + 1 ≠ L.length → (L.getD k noTo).text ≠ []) := by
  obtain ⟨G, n, rfl, hall⟩ := h
  rw [List.length_append, List.length_singleton] at hk ⊢
  rcases Nat.lt_or_ge k G.length with h1 | h1
  · have e : (G ++ [(⟨0, [], n⟩ : To)]).getD k noTo = G[k] := by
      rw [List.getD_eq_getElem?_getD, List.getElem?_append_left h1, List.getElem?_eq_getElem h1]; rfl
    rw [e]
    have hg := hall G[k] (List.getElem_mem _)
    obtain ⟨h2, h3⟩ := good_kind hg
    exact ⟨h2, by rw [decide_eq_false h3, decide_eq_false (by omega)], fun _ => hg.1⟩
  · obtain rfl : k = G.length := by omega
    have e : (G ++ [(⟨0, [], n⟩ : To)]).getD G.length noTo = ⟨0, [], n⟩ := by
      rw [List.getD_eq_getElem?_getD, List.getElem?_append_right (Nat.le_refl _), Nat.sub_self]; rfl
    rw [e]
    exact ⟨end_kind n, by rw [decide_eq_true rfl, decide_eq_true rfl], fun h => absurd rfl h⟩
theorem drop_getD {L : List To} {k : Nat} (h : k < L.length) : L.drop k = L.getD k noTo :: L.drop (k + 1) := by
  rw [List.drop_eq_getElem_cons h, List.getD_eq_getElem?_getD, List.getElem?_eq_getElem h]; rfl
theorem lexS_nil_err {l : List UInt8} (h : (lexS l).e ≠ 0) : (lexS l).l = [] := by
  unfold lexS at h ⊢
  split
  · rfl
  · rename_i h2
    rw [if_neg h2] at h
    exact (lexL_err _ _ _ (Nat.le_refl _)).2 h
theorem lexS_ok {l : List UInt8} (h : (lexS l).e = 0) : Goods (lexS l).l ∧ Placed l 0 (lexS l).l ∧ (lexS l).l ≠ [] ∧ ∀ t ∈ (lexS l).l, t.text.length ≤ l.length := by
  unfold lexS at h ⊢
  split
  · rename_i h2
    rw [if_pos h2] at h; cases h
  · rename_i h2
    rw [if_neg h2] at h
    obtain ⟨g1, g2⟩ := goods_of _ 0 l (Nat.le_refl _) h
    exact ⟨g1, placed_of l l.length 0 0 (by omega) (Nat.zero_le _) (Nat.le_refl _) (fun i h1 h2 => by omega) h, lexL_ne _ 0 l (Nat.le_refl _) h, g2⟩

end Go.Proofs.YtlfcmelencdghaaDoor
