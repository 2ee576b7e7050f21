/-
  What is proved: plain facts on words: what is told stands alone, and words joined with blanks are told again. Conditions: none.
-/
import Derived.Test.YtlfcmelencdghaaDoorLxI
namespace Go.Proofs.YtlfcmelencdghaaDoor
open Go Go.RowKit Go.Lib Go.Proofs
set_option linter.unusedVariables false

theorem not32 : isIn 32 = false ∧ isDg 32 = false ∧ isBl 32 = true := by decide
theorem pt_app (x r : List UInt8) : hasPt (x ++ 32 :: r) = hasPt x := by
  unfold hasPt
  rw [runL_app x 32 r not32.2.1]
  have hle := runL_le isDg x
  rcases Nat.lt_or_ge (runL isDg x) x.length with h | h
  · rw [List.getElem?_append_left h]
  · have e : runL isDg x = x.length := by omega
    rw [e, List.getElem?_append_right (Nat.le_refl _), Nat.sub_self, List.getElem?_eq_none (Nat.le_refl _)]
    rfl
theorem frac_app (x r : List UInt8) (h : hasPt x = true) : fracL (x ++ 32 :: r) = fracL x := by
  have hlt := hasPt_lt h
  unfold fracL
  rw [runL_app x 32 r not32.2.1, List.drop_append_of_le_length (by omega), runL_app _ 32 r not32.2.1]
theorem badE_app (x r : List UInt8) : badE (x ++ 32 :: r) = badE x := by
  unfold badE
  rw [pt_app]
  cases h : hasPt x
  · rfl
  · rw [frac_app x r h]
theorem badP_app (x r : List UInt8) (h : badE x = true) : badP (x ++ 32 :: r) = badP x := by
  have hp : hasPt x = true := by
    unfold badE at h
    cases hp : hasPt x
    · rw [hp] at h; cases h
    · rfl
  unfold badP
  rw [frac_app x r hp, runL_app x 32 r not32.2.1]
theorem numN_app (x r : List UInt8) : numN (x ++ 32 :: r) = numN x := by
  unfold numN
  rw [pt_app, runL_app x 32 r not32.2.1]
  cases h : hasPt x
  · rfl
  · rw [frac_app x r h]
theorem numV_app (x r : List UInt8) : numV (x ++ 32 :: r) = numV x := by
  unfold numV
  have hle := runL_le isDg x
  rw [pt_app, runL_app x 32 r not32.2.1, List.take_append_of_le_length hle]
  cases h : hasPt x
  · rfl
  · have hlt := hasPt_lt h
    have hf := runL_le isDg (x.drop (runL isDg x + 1))
    rw [frac_app x r h, List.drop_append_of_le_length (by omega), List.take_append_of_le_length (by unfold fracL; exact hf)]
/-- The word at the head is the same, whatever stands behind a blank. -/
theorem tok_app (x r : List UInt8) (hx : x ≠ []) : tok (x ++ 32 :: r) = tok x := by
  match x, hx with
  | b :: x, _ =>
    show tok (b :: (x ++ 32 :: r)) = _
    rw [tok_cons, tok_cons, ← List.cons_append, runL_app _ 32 r not32.1, badE_app, numV_app, numN_app]
    cases h : badE (b :: x)
    · rfl
    · rw [badP_app _ _ h]
/-- A word that is right is that word, standing alone. -/
theorem tok_take {l : List UInt8} {k : Int} {n : Nat} (h : tok l = ⟨k, n, 0⟩) : tok (l.take n) = ⟨k, n, 0⟩ ∧ (l.take n).length = n ∧ l.take n ≠ [] := by
  have ho := tok_ok (l := l) (by rw [h])
  rw [h] at ho
  dsimp only at ho
  have hlen : (l.take n).length = n := by rw [List.length_take]; omega
  have hne : l.take n ≠ [] := fun e => by rw [e] at hlen; simp at hlen; omega
  refine ⟨?_, hlen, hne⟩
  match l, n, ho with
  | b :: r, n + 1, _ =>
    rw [List.take_succ_cons] at hlen ⊢
    have h' := h
    rw [tok_cons] at h' ⊢
    by_cases h1 : isLt b = true
    · rw [if_pos h1] at h' ⊢
      by_cases h2 : 32 < runL isIn (b :: r)
      · rw [if_pos h2] at h'; injection h' with _ _ h3; cases h3
      · rw [if_neg h2] at h'
        injection h' with e1 e2 e3
        have e4 : runL isIn (b :: r.take n) = n + 1 := by
          rw [← List.take_succ_cons, runL_take _ _ (by omega), e2]
        rw [e4, if_neg (by omega), e1]
    · rw [if_neg h1] at h' ⊢
      by_cases h2 : isDg b = true
      · rw [if_pos h2] at h' ⊢
        by_cases h3 : badE (b :: r) = true
        · rw [if_pos h3] at h'; injection h' with _ _ h3; cases h3
        · rw [if_neg h3] at h'
          by_cases h4 : 1000000000000000000 < numV (b :: r)
          · rw [if_pos h4] at h'; injection h' with _ _ h3; cases h3
          · rw [if_neg h4] at h'
            injection h' with e1 e2 e3
            have hr0 : ¬ runL isDg (b :: r) = 0 := by simp [runL, h2]
            obtain ⟨⟨n1, n2, n3⟩, n4⟩ := num_take hr0 (by simpa using h3)
            rw [e2, List.take_succ_cons] at n1 n2 n3 n4
            rw [n2, n4, if_neg (by simp), if_neg h4, n3, hlen, e1]
      · rw [if_neg h2] at h' ⊢
        by_cases h3 : isSg b = true
        · rw [if_pos h3] at h' ⊢; exact h'
        · rw [if_neg h3] at h'; injection h' with _ _ h3; cases h3

/-- A word that stands alone, and isn't the last one. -/
def Good (t : To) : Prop := t.text ≠ [] ∧ tok t.text = ⟨t.kind, t.text.length, 0⟩ ∧ ∃ b r, t.text = b :: r ∧ isBl b = false
/-- What a text's words are like: good ones, and the last one. -/
def Goods (L : List To) : Prop := ∃ G n, L = G ++ [⟨0, [], n⟩] ∧ ∀ t ∈ G, Good t
theorem goods_of : ∀ (n a : Nat) (l : List UInt8), l.length ≤ n → (lexL a l).e = 0 → Goods (lexL a l).l ∧ ∀ t ∈ (lexL a l).l, t.text.length ≤ l.length := by
  intro n
  induction n with
  | zero =>
    intro a l h _
    obtain rfl : l = [] := List.eq_nil_of_length_eq_zero (by omega)
    rw [lexL_nil]
    exact ⟨⟨[], a, rfl, fun t h => by cases h⟩, fun t ht => by simp at ht; rw [ht]; simp⟩
  | succ n ih =>
    intro a l hl he
    match l with
    | [] =>
      rw [lexL_nil]
      exact ⟨⟨[], a, rfl, fun t h => by cases h⟩, fun t ht => by simp at ht; rw [ht]; simp⟩
    | b :: r =>
      cases hb : isBl b
      case true =>
        rw [lexL_blank hb] at he ⊢
        obtain ⟨h1, h2⟩ := ih (a + 1) r (by simpa using hl) he
        exact ⟨h1, fun t ht => by have := h2 t ht; simp only [List.length_cons]; omega⟩
      case false =>
        by_cases hk : (tok (b :: r)).e = 0
        · rw [lexL_ok hb hk] at he ⊢
          have ho := tok_ok hk
          generalize hT : tok (b :: r) = T at he ho hk ⊢
          obtain ⟨k, m, e⟩ := T
          dsimp only at he ho hk ⊢
          subst hk
          have he2 : (lexL (a + m) ((b :: r).drop m)).e = 0 := by
            unfold catA at he
            split at he
            · assumption
            · exact he
          obtain ⟨h1, h2⟩ := ih (a + m) ((b :: r).drop m) (by simp only [List.length_drop, List.length_cons] at hl ⊢; omega) he2
          obtain ⟨t1, t2, t3⟩ := tok_take hT
          have hg : Good ⟨k, (b :: r).take m, a⟩ := by
            refine ⟨t3, by dsimp only; rw [t2]; exact t1, ?_⟩
            match m, ho with
            | m + 1, _ => exact ⟨b, r.take m, by rw [List.take_succ_cons], hb⟩
          unfold catA
          rw [if_pos he2]
          obtain ⟨G, n', hG, hall⟩ := h1
          refine ⟨⟨⟨k, (b :: r).take m, a⟩ :: G, n', by dsimp only; rw [hG]; rfl, fun t ht => ?_⟩, fun t ht => ?_⟩
          · rcases List.mem_cons.1 ht with rfl | ht
            · exact hg
            · exact hall t ht
          · rcases List.mem_append.1 ht with ht | ht
            · rw [List.mem_singleton] at ht
              rw [ht]
              dsimp only
              rw [t2]; exact ho.2
            · have := h2 t ht
              simp only [List.length_drop] at this
              omega
        · rw [lexL_bad hb hk] at he
          exact absurd he hk

/-- Words' texts with a blank between each two. -/
def joinL : List To → List UInt8
  | [] => []
  | [x] => x.text
  | x :: y :: r => x.text ++ 32 :: joinL (y :: r)
theorem joinL_cons (x : To) (L : List To) (h : L ≠ []) : joinL (x :: L) = x.text ++ 32 :: joinL L := by
  match L, h with
  | y :: r, _ => rfl
theorem joinL_snoc : ∀ (K : List To) (x : To), joinL (K ++ [x]) = if K = [] then x.text else joinL K ++ 32 :: x.text
  | [], x => rfl
  | [y], x => rfl
  | y :: z :: K, x => by
    have h := joinL_snoc (z :: K) x
    rw [if_neg (by simp)] at h ⊢
    show y.text ++ 32 :: joinL (z :: K ++ [x]) = y.text ++ 32 :: joinL (z :: K) ++ 32 :: x.text
    rw [h]; simp
def kt (t : To) : Int × List UInt8 := (t.kind, t.text)
/-- Joined, they are told again. -/
theorem lex_join : ∀ (G : List To) (n a : Nat), (∀ t ∈ G, Good t) → ∃ M, lexL a (joinL (G ++ [⟨0, [], n⟩])) = ⟨M, 0, 0⟩ ∧ M.map kt = (G ++ [(⟨0, [], n⟩ : To)]).map kt
  | [], n, a, _ => ⟨[⟨0, [], a⟩], by rw [show joinL ([] ++ [⟨0, [], n⟩]) = [] from rfl, lexL_nil], rfl⟩
  | x :: G, n, a, h => by
    obtain ⟨g1, g2, b, r, g3, g4⟩ := h x (List.mem_cons_self ..)
    obtain ⟨M, hM, hk⟩ := lex_join G n (a + x.text.length + 1) (fun t ht => h t (List.mem_cons_of_mem _ ht))
    refine ⟨⟨x.kind, x.text, a⟩ :: M, ?_, by simp only [List.map_cons, List.cons_append, hk]; rfl⟩
    rw [List.cons_append, joinL_cons _ _ (by simp)]
    have ht : tok (x.text ++ 32 :: joinL (G ++ [⟨0, [], n⟩])) = ⟨x.kind, x.text.length, 0⟩ := by rw [tok_app _ _ g1, g2]
    rw [g3] at ht hM ⊢
    rw [List.cons_append] at ht ⊢
    rw [lexL_ok g4 (by rw [ht]), ht]
    dsimp only
    rw [← List.cons_append, List.take_left', List.drop_left' rfl, lexL_blank not32.2.2, hM]
    · rfl
    · rfl

end Go.Proofs.YtlfcmelencdghaaDoor
