/-
  What is proved: plain facts on two texts with a blank between. Conditions: none.
-/
import Derived.Test.YtlfcmelencdghaaDoorLxN
namespace Go.Proofs.YtlfcmelencdghaaDoor
open Go Go.RowKit Go.Lib Go.Proofs
set_option linter.unusedVariables false

/-- A word, told further behind. -/
def shT (d : Nat) (t : To) : To := ⟨t.kind, t.text, t.at' + d⟩
def shA (d : Nat) (A : Ans) : Ans := ⟨A.l.map (shT d), if A.e = 0 then 0 else A.p + d, A.e⟩
theorem shA_cat (d : Nat) (L : List To) (A : Ans) : shA d (catA L A) = catA (L.map (shT d)) (shA d A) := by
  unfold shA catA
  by_cases h : A.e = 0
  · simp [h]
  · simp [h]
theorem lexL_shift (d : Nat) : ∀ (n a : Nat) (l : List UInt8), l.length ≤ n → lexL (a + d) l = shA d (lexL a l) := by
  intro n
  induction n with
  | zero =>
    intro a l h
    obtain rfl : l = [] := List.eq_nil_of_length_eq_zero (by omega)
    rw [lexL_nil, lexL_nil]; rfl
  | succ n ih =>
    intro a l hl
    match l with
    | [] => rw [lexL_nil, lexL_nil]; rfl
    | b :: r =>
      cases hb : isBl b
      case true =>
        rw [lexL_blank hb, lexL_blank hb, show a + d + 1 = a + 1 + d by omega]
        exact ih (a + 1) r (by simpa using hl)
      case false =>
        by_cases he : (tok (b :: r)).e = 0
        · rw [lexL_ok hb he, lexL_ok hb he, shA_cat, show a + d + (tok (b :: r)).n = a + (tok (b :: r)).n + d by omega,
            ih (a + (tok (b :: r)).n) _ (by have := (tok_ok he).1; simp only [List.length_drop, List.length_cons] at hl ⊢; omega)]
          rfl
        · rw [lexL_bad hb he, lexL_bad hb he]
          unfold shA
          dsimp only
          rw [if_neg he, show a + d + (tok (b :: r)).n = a + (tok (b :: r)).n + d by omega]
          rfl
theorem lexL_ne : ∀ (n a : Nat) (l : List UInt8), l.length ≤ n → (lexL a l).e = 0 → (lexL a l).l ≠ [] := fun n a l h he e => by
  obtain ⟨⟨G, m, hG, -⟩, -⟩ := goods_of n a l h he
  rw [hG] at e
  simp at e
theorem lex_cat (r : List UInt8) : ∀ (n a : Nat) (l : List UInt8), l.length ≤ n → lexL a (l ++ 32 :: r) = if (lexL a l).e = 0 then catA (lexL a l).l.dropLast (lexL (a + l.length + 1) r) else lexL a l := by
  intro n
  induction n with
  | zero =>
    intro a l h
    obtain rfl : l = [] := List.eq_nil_of_length_eq_zero (by omega)
    rw [lexL_nil, List.nil_append, lexL_blank not32.2.2, if_pos rfl]
    dsimp only
    rw [show ([⟨0, [], a⟩] : List To).dropLast = [] from rfl, catA_nil _ (fun h => (lexL_err _ _ _ (Nat.le_refl _)).1 h)]
    rfl
  | succ n ih =>
    intro a l hl
    match l with
    | [] =>
      rw [lexL_nil, List.nil_append, lexL_blank not32.2.2, if_pos rfl]
      dsimp only
      rw [show ([⟨0, [], a⟩] : List To).dropLast = [] from rfl, catA_nil _ (fun h => (lexL_err _ _ _ (Nat.le_refl _)).1 h)]
      rfl
    | b :: q =>
      have ht := tok_app (b :: q) r (by simp)
      cases hb : isBl b
      case true =>
        rw [List.cons_append, lexL_blank hb, lexL_blank hb, ih (a + 1) q (by simpa using hl), List.length_cons, show a + 1 + q.length + 1 = a + (q.length + 1) + 1 by omega]
      case false =>
        by_cases he : (tok (b :: q)).e = 0
        · have ho := tok_ok he
          have he' : (tok (b :: (q ++ 32 :: r))).e = 0 := by rw [← List.cons_append, ht]; exact he
          rw [List.cons_append, lexL_ok hb he', lexL_ok hb he, ← List.cons_append, ht, List.take_append_of_le_length ho.2, List.drop_append_of_le_length ho.2,
            ih (a + (tok (b :: q)).n) _ (by simp only [List.length_drop, List.length_cons] at hl ho ⊢; omega)]
          have hne := lexL_ne _ (a + (tok (b :: q)).n) ((b :: q).drop (tok (b :: q)).n) (Nat.le_refl _)
          rw [show a + (tok (b :: q)).n + ((b :: q).drop (tok (b :: q)).n).length + 1 = a + (b :: q).length + 1 by simp only [List.length_drop]; omega]
          generalize lexL (a + (tok (b :: q)).n) ((b :: q).drop (tok (b :: q)).n) = X at hne ⊢
          generalize lexL (a + (b :: q).length + 1) r = Y
          by_cases hx : X.e = 0
          · rw [if_pos hx]
            have hc : (catA [⟨(tok (b :: q)).kind, List.take (tok (b :: q)).n (b :: q), a⟩] X) = ⟨[⟨(tok (b :: q)).kind, List.take (tok (b :: q)).n (b :: q), a⟩] ++ X.l, 0, 0⟩ := by unfold catA; rw [if_pos hx]
            rw [hc, if_pos rfl, catA_cat]
            dsimp only
            rw [List.dropLast_append_of_ne_nil (hne hx)]
          · rw [if_neg hx]
            have hc : ∀ K, catA K X = X := fun K => by unfold catA; rw [if_neg hx]
            rw [hc, if_neg hx]
        · have he' : (tok (b :: (q ++ 32 :: r))).e ≠ 0 := by rw [← List.cons_append, ht]; exact he
          rw [List.cons_append, lexL_bad hb he', lexL_bad hb he, ← List.cons_append, ht, if_neg he]

/-- The place of what is wrong lies within the text. -/
theorem tok_n_le (l : List UInt8) : (tok l).n ≤ l.length := by
  match l with
  | [] => exact Nat.le_refl _
  | b :: r =>
    rw [tok_cons]
    by_cases h1 : isLt b = true
    · rw [if_pos h1]
      split
      · exact Nat.zero_le _
      · exact runL_le _ _
    · rw [if_neg h1]
      by_cases h2 : isDg b = true
      · rw [if_pos h2]
        by_cases h3 : badE (b :: r) = true
        · rw [if_pos h3]
          dsimp only
          have hp : hasPt (b :: r) = true := by
            unfold badE at h3
            cases hp : hasPt (b :: r)
            · rw [hp] at h3; cases h3
            · rfl
          have hlt := hasPt_lt hp
          unfold badP
          split
          · omega
          · rename_i h0
            have h4 : 4 < fracL (b :: r) := by
              unfold badE at h3
              rw [hp, decide_eq_false h0] at h3
              simpa using h3
            have hf := runL_le isDg ((b :: r).drop (runL isDg (b :: r) + 1))
            rw [List.length_drop] at hf
            unfold fracL at h4
            omega
        · rw [if_neg h3]
          split
          · exact Nat.zero_le _
          · exact numN_le _
      · rw [if_neg h2]
        split <;> simp
theorem lexL_p : ∀ (n a : Nat) (l : List UInt8), l.length ≤ n → (lexL a l).p ≤ a + l.length := by
  intro n
  induction n with
  | zero =>
    intro a l h
    obtain rfl : l = [] := List.eq_nil_of_length_eq_zero (by omega)
    rw [lexL_nil]; simp
  | succ n ih =>
    intro a l hl
    match l with
    | [] => rw [lexL_nil]; simp
    | b :: r =>
      cases hb : isBl b
      case true =>
        rw [lexL_blank hb]
        have := ih (a + 1) r (by simpa using hl)
        simp only [List.length_cons]; omega
      case false =>
        have hn := tok_n_le (b :: r)
        by_cases he : (tok (b :: r)).e = 0
        · rw [lexL_ok hb he]
          have ho := tok_ok he
          have := ih (a + (tok (b :: r)).n) ((b :: r).drop (tok (b :: r)).n) (by simp only [List.length_drop, List.length_cons] at hl ⊢; omega)
          unfold catA
          split
          · exact Nat.zero_le _
          · simp only [List.length_drop, List.length_cons] at this hn ⊢; omega
        · rw [lexL_bad hb he]; dsimp only; omega
theorem lexS_p (l : List UInt8) : (lexS l).p ≤ l.length := by
  unfold lexS
  split
  · exact Nat.zero_le _
  · have := lexL_p _ 0 l (Nat.le_refl _)
    omega

/-- Words' places lie within the text. -/
theorem lexL_at : ∀ (n a : Nat) (l : List UInt8), l.length ≤ n → ∀ t ∈ (lexL a l).l, t.at' ≤ a + l.length := by
  intro n
  induction n with
  | zero =>
    intro a l h t ht
    obtain rfl : l = [] := List.eq_nil_of_length_eq_zero (by omega)
    rw [lexL_nil] at ht
    simp at ht; rw [ht]; simp
  | succ n ih =>
    intro a l hl t ht
    match l with
    | [] => rw [lexL_nil] at ht; simp at ht; rw [ht]; simp
    | b :: r =>
      cases hb : isBl b
      case true =>
        rw [lexL_blank hb] at ht
        have := ih (a + 1) r (by simpa using hl) t ht
        simp only [List.length_cons]; omega
      case false =>
        by_cases he : (tok (b :: r)).e = 0
        · rw [lexL_ok hb he] at ht
          have ho := tok_ok he
          have hi := ih (a + (tok (b :: r)).n) ((b :: r).drop (tok (b :: r)).n) (by simp only [List.length_drop, List.length_cons] at hl ⊢; omega) t
          unfold catA at ht
          split at ht
          · rcases List.mem_append.1 ht with ht | ht
            · rw [List.mem_singleton] at ht; rw [ht]; dsimp only; omega
            · have := hi ht; simp only [List.length_drop, List.length_cons] at this ho ⊢; omega
          · have := hi ht; simp only [List.length_drop, List.length_cons] at this ho ⊢; omega
        · rw [lexL_bad hb he] at ht; cases ht
theorem lexS_at (l : List UInt8) : ∀ t ∈ (lexS l).l, t.at' ≤ l.length := by
  unfold lexS
  split
  · intro t ht; cases ht
  · intro t ht
    have := lexL_at _ 0 l (Nat.le_refl _) t ht
    omega

/-- Two texts with a blank between. -/
theorem joins_of {x y : List UInt8} (hx : x.length ≤ 1500) (hy : y.length ≤ 1500) :
    ((lexS x).e ≠ 0 → (lexS (x ++ 32 :: y)).e = (lexS x).e) ∧
    ((lexS x).e = 0 → (lexS y).e ≠ 0 → (lexS (x ++ 32 :: y)).e = (lexS y).e ∧ (lexS (x ++ 32 :: y)).p = x.length + 1 + (lexS y).p) ∧
    ((lexS x).e = 0 → (lexS y).e = 0 → lexS (x ++ 32 :: y) = ⟨(lexS x).l.dropLast ++ (lexS y).l.map (shT (x.length + 1)), 0, 0⟩ ∧ (lexS x).l ≠ [] ∧ (lexS y).l ≠ []) := by
  have e1 : lexS x = lexL 0 x := by unfold lexS; rw [if_neg (by omega)]
  have e2 : lexS y = lexL 0 y := by unfold lexS; rw [if_neg (by omega)]
  have e3 : lexS (x ++ 32 :: y) = lexL 0 (x ++ 32 :: y) := by unfold lexS; rw [if_neg (by simp only [List.length_append, List.length_cons]; omega)]
  rw [e1, e2, e3, lex_cat y _ 0 x (Nat.le_refl _)]
  have hs := lexL_shift (x.length + 1) _ 0 y (Nat.le_refl _)
  rw [show 0 + x.length + 1 = 0 + (x.length + 1) by omega, hs]
  have hn1 := lexL_ne _ 0 x (Nat.le_refl _)
  have hn2 := lexL_ne _ 0 y (Nat.le_refl _)
  generalize lexL 0 x = X at hn1 ⊢
  generalize lexL 0 y = Y at hn2 ⊢
  refine ⟨fun h => by rw [if_neg h], fun h h' => ?_, fun h h' => ?_⟩
  · rw [if_pos h]
    have hc : catA X.l.dropLast (shA (x.length + 1) Y) = shA (x.length + 1) Y := by unfold catA; rw [if_neg (show ¬ (shA (x.length + 1) Y).e = 0 from h')]
    rw [hc]
    refine ⟨rfl, ?_⟩
    unfold shA
    dsimp only
    rw [if_neg h']; omega
  · rw [if_pos h]
    refine ⟨?_, hn1 h, hn2 h'⟩
    unfold catA
    rw [if_pos (show (shA (x.length + 1) Y).e = 0 from h')]
    rfl

end Go.Proofs.YtlfcmelencdghaaDoor
