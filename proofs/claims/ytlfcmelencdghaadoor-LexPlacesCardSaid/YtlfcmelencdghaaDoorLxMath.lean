/-
  What is proved: plain facts on a formula's words: what stands at a text's head, and the tokens of a text. Conditions: none.
-/
namespace Go.Proofs.YtlfcmelencdghaaDoor

def isLt (b : UInt8) : Bool := decide (97 ≤ b.toNat) && decide (b.toNat ≤ 122)
def isDg (b : UInt8) : Bool := decide (48 ≤ b.toNat) && decide (b.toNat ≤ 57)
def isIn (b : UInt8) : Bool := isLt b || isDg b || decide (b.toNat = 46) || decide (b.toNat = 95) || decide (b.toNat = 58)
def isSg (b : UInt8) : Bool := decide (b.toNat = 43) || decide (b.toNat = 45) || decide (b.toNat = 42) || decide (b.toNat = 40) || decide (b.toNat = 41) || decide (b.toNat = 44) || decide (b.toNat = 60) || decide (b.toNat = 61)
def isBl (b : UInt8) : Bool := decide (b.toNat = 32)

/-- How many bytes at the head are so. -/
def runL (p : UInt8 → Bool) : List UInt8 → Nat
  | [] => 0
  | b :: r => if p b = true then runL p r + 1 else 0
theorem runL_le (p : UInt8 → Bool) : ∀ l : List UInt8, runL p l ≤ l.length
  | [] => Nat.le_refl _
  | b :: r => by
    unfold runL
    split
    · have := runL_le p r; simp; omega
    · simp
theorem runL_all {p : UInt8 → Bool} : ∀ (l : List UInt8) (k : Nat), k < runL p l → ∃ b, l[k]? = some b ∧ p b = true
  | [], k, h => by simp [runL] at h
  | b :: r, k, h => by
    unfold runL at h
    split at h
    · rename_i hb
      match k with
      | 0 => exact ⟨b, rfl, hb⟩
      | k + 1 => exact runL_all r k (by omega)
    · omega
theorem runL_end {p : UInt8 → Bool} : ∀ (l : List UInt8) (b : UInt8), l[runL p l]? = some b → p b = false
  | [], b, h => by simp [runL] at h
  | c :: r, b, h => by
    unfold runL at h
    split at h
    · exact runL_end r b (by simpa using h)
    · rename_i hb
      obtain rfl : c = b := by simpa using h
      simpa using hb
/-- What stands at the head stands there whatever comes behind, if that begins otherwise. -/
theorem runL_app {p : UInt8 → Bool} (x : List UInt8) (b : UInt8) (r : List UInt8) (hb : p b = false) : runL p (x ++ b :: r) = runL p x := by
  induction x with
  | nil => simp [runL, hb]
  | cons c x ih =>
    simp only [List.cons_append, runL, ih]
theorem runL_take {p : UInt8 → Bool} : ∀ (l : List UInt8) (k : Nat), runL p l ≤ k → runL p (l.take k) = runL p l
  | [], k, h => by simp
  | b :: r, 0, h => by simp [runL] at h ⊢; simp [h]
  | b :: r, k + 1, h => by
    simp only [List.take_succ_cons, runL]
    split
    · rename_i hb
      simp only [runL, hb, if_true] at h
      rw [runL_take r k (by omega)]
    · rfl
theorem runL_of {p : UInt8 → Bool} : ∀ (l : List UInt8) (n : Nat), n ≤ l.length → (∀ k, k < n → ∀ b, l[k]? = some b → p b = true) → (∀ b, l[n]? = some b → p b = false) → runL p l = n
  | [], n, hn, _, _ => by simp at hn; simp [runL, hn]
  | b :: r, 0, _, _, h => by simp [runL, h b rfl]
  | b :: r, n + 1, hn, h, he => by
    have hb := h 0 (by omega) b rfl
    have := runL_of (p := p) r n (by simpa using hn) (fun k hk c hc => h (k + 1) (by omega) c (by simpa using hc)) (fun c hc => he c (by simpa using hc))
    simp [runL, hb, this]

/-- The digits behind the point of the number at the head; none, if it has no point. -/
def fracL (l : List UInt8) : Nat := runL isDg (l.drop (runL isDg l + 1))
def hasPt (l : List UInt8) : Bool := l[runL isDg l]? == some 46
/-- How many bytes the number at the head has. -/
def numN (l : List UInt8) : Nat := if hasPt l = true then runL isDg l + 1 + fracL l else runL isDg l
/-- What a text of digits says. -/
def valN (l : List UInt8) : Nat := l.foldl (fun n b => 10 * n + (b.toNat - 48)) 0
/-- What the number at the head says, in millionths. -/
def numV (l : List UInt8) : Nat :=
  if hasPt l = true then valN (l.take (runL isDg l)) * 1000000 + valN ((l.drop (runL isDg l + 1)).take (fracL l)) * 10 ^ (6 - fracL l) else valN (l.take (runL isDg l)) * 1000000
/-- What is wrong with the form of the number at the head: the code, and the place. -/
def badE (l : List UInt8) : Bool := hasPt l && (decide (fracL l = 0) || decide (4 < fracL l))
def badP (l : List UInt8) : Nat := if fracL l = 0 then runL isDg l else runL isDg l + 5

/-- The word at the head of a text: its kind, its length (or the place of what is wrong), and the code. -/
structure Tk where
  kind : Int
  n : Nat
  e : Int
def tok (l : List UInt8) : Tk :=
  match l with
  | [] => ⟨0, 0, 3⟩
  | b :: _ =>
    if isLt b = true then (if 32 < runL isIn l then ⟨0, 0, 4⟩ else ⟨1, runL isIn l, 0⟩)
    else if isDg b = true then (if badE l = true then ⟨0, badP l, 3⟩ else if 1000000000000000000 < numV l then ⟨0, 0, 2⟩ else ⟨2, numN l, 0⟩)
    else if isSg b = true then ⟨3, 1, 0⟩ else ⟨0, 0, 3⟩

/-- A word, as it is told. -/
structure To where
  kind : Int
  text : List UInt8
  at' : Nat
/-- What a text's words are, or the place and the code of what is wrong. -/
structure Ans where
  l : List To
  p : Nat
  e : Int

theorem runL_pos {p : UInt8 → Bool} {b : UInt8} {r : List UInt8} (h : p b = true) : 0 < runL p (b :: r) := by simp [runL, h]
theorem isIn_lt {b : UInt8} (h : isLt b = true) : isIn b = true := by simp [isIn, h]
theorem numN_pos {b : UInt8} {r : List UInt8} (h : isDg b = true) : 0 < numN (b :: r) := by
  have := runL_pos (r := r) h
  unfold numN; split <;> omega
theorem hasPt_lt {l : List UInt8} (h : hasPt l = true) : runL isDg l < l.length := by
  unfold hasPt at h
  rcases Nat.lt_or_ge (runL isDg l) l.length with h1 | h1
  · exact h1
  · rw [List.getElem?_eq_none h1] at h; cases h
theorem numN_le (l : List UInt8) : numN l ≤ l.length := by
  unfold numN fracL
  have h1 := runL_le isDg l
  split
  · rename_i h
    have h2 := hasPt_lt h
    have h3 := runL_le isDg (l.drop (runL isDg l + 1))
    rw [List.length_drop] at h3
    omega
  · exact h1
/-- A word that is right is at least one byte long, and within the text. -/
theorem tok_ok {l : List UInt8} (h : (tok l).e = 0) : 0 < (tok l).n ∧ (tok l).n ≤ l.length := by
  match l with
  | [] => simp [tok] at h
  | b :: r =>
    unfold tok at h ⊢
    dsimp only at h ⊢
    by_cases h1 : isLt b = true
    · rw [if_pos h1] at h ⊢
      by_cases h2 : 32 < runL isIn (b :: r)
      · rw [if_pos h2] at h; cases h
      · rw [if_neg h2]
        exact ⟨runL_pos (isIn_lt h1), runL_le _ _⟩
    · rw [if_neg h1] at h ⊢
      by_cases h2 : isDg b = true
      · rw [if_pos h2] at h ⊢
        by_cases h3 : badE (b :: r) = true
        · rw [if_pos h3] at h; cases h
        · rw [if_neg h3] at h ⊢
          by_cases h4 : 1000000000000000000 < numV (b :: r)
          · rw [if_pos h4] at h; cases h
          · rw [if_neg h4]
            exact ⟨numN_pos h2, numN_le _⟩
      · rw [if_neg h2] at h ⊢
        by_cases h3 : isSg b = true
        · rw [if_pos h3]; simp
        · rw [if_neg h3] at h; cases h

/-- A text's words, from a place on. -/
def lexL (at' : Nat) (l : List UInt8) : Ans :=
  match l with
  | [] => ⟨[⟨0, [], at'⟩], 0, 0⟩
  | b :: r =>
    if isBl b = true then lexL (at' + 1) r
    else if _h : (tok (b :: r)).e = 0 then
      let a := lexL (at' + (tok (b :: r)).n) ((b :: r).drop (tok (b :: r)).n)
      if a.e = 0 then ⟨⟨(tok (b :: r)).kind, (b :: r).take (tok (b :: r)).n, at'⟩ :: a.l, 0, 0⟩ else a
    else ⟨[], at' + (tok (b :: r)).n, (tok (b :: r)).e⟩
termination_by l.length
decreasing_by
  · simp
  · have := (tok_ok _h).1
    simp only [List.length_drop, List.length_cons]; omega
/-- Words put ahead of others. -/
def catA (d : List To) (a : Ans) : Ans := if a.e = 0 then ⟨d ++ a.l, 0, 0⟩ else a
theorem lexL_err : ∀ (n : Nat) (at' : Nat) (l : List UInt8), l.length ≤ n → ((lexL at' l).e = 0 → (lexL at' l).p = 0) ∧ ((lexL at' l).e ≠ 0 → (lexL at' l).l = []) := by
  intro n
  induction n with
  | zero =>
    intro at' l h
    obtain rfl : l = [] := List.eq_nil_of_length_eq_zero (by omega)
    rw [lexL.eq_def]
    exact ⟨fun _ => rfl, fun h => absurd rfl h⟩
  | succ n ih =>
    intro at' l hl
    match l with
    | [] => rw [lexL.eq_def]; exact ⟨fun _ => rfl, fun h => absurd rfl h⟩
    | b :: r =>
      rw [lexL.eq_def]
      dsimp only
      by_cases h1 : isBl b = true
      · rw [if_pos h1]; exact ih _ _ (by simpa using hl)
      · rw [if_neg h1]
        by_cases h2 : (tok (b :: r)).e = 0
        · rw [dif_pos h2]
          have hi := ih (at' + (tok (b :: r)).n) ((b :: r).drop (tok (b :: r)).n) (by
            have := (tok_ok h2).1
            simp only [List.length_drop, List.length_cons] at hl ⊢; omega)
          by_cases h3 : (lexL (at' + (tok (b :: r)).n) ((b :: r).drop (tok (b :: r)).n)).e = 0
          · rw [if_pos h3]; exact ⟨fun _ => rfl, fun h => absurd rfl h⟩
          · rw [if_neg h3]; exact hi
        · rw [dif_neg h2]; exact ⟨fun h => absurd h h2, fun _ => rfl⟩
theorem lexL_nil (at' : Nat) : lexL at' [] = ⟨[⟨0, [], at'⟩], 0, 0⟩ := by rw [lexL.eq_def]
theorem lexL_blank {at' : Nat} {b : UInt8} {r : List UInt8} (h : isBl b = true) : lexL at' (b :: r) = lexL (at' + 1) r := by rw [lexL.eq_def]; exact if_pos h
theorem lexL_bad {at' : Nat} {b : UInt8} {r : List UInt8} (h : isBl b = false) (he : (tok (b :: r)).e ≠ 0) : lexL at' (b :: r) = ⟨[], at' + (tok (b :: r)).n, (tok (b :: r)).e⟩ := by
  rw [lexL.eq_def]
  dsimp only
  rw [if_neg (by rw [h]; decide), dif_neg he]
theorem lexL_ok {at' : Nat} {b : UInt8} {r : List UInt8} (h : isBl b = false) (he : (tok (b :: r)).e = 0) :
    lexL at' (b :: r) = catA [⟨(tok (b :: r)).kind, (b :: r).take (tok (b :: r)).n, at'⟩] (lexL (at' + (tok (b :: r)).n) ((b :: r).drop (tok (b :: r)).n)) := by
  rw [lexL.eq_def]
  dsimp only
  rw [if_neg (by rw [h]; decide), dif_pos he]
  rfl
theorem catA_nil (a : Ans) (h : a.e = 0 → a.p = 0) : catA [] a = a := by
  unfold catA
  split
  · rename_i he
    obtain ⟨l, p, e⟩ := a
    dsimp only at he h ⊢
    rw [h he, he]; rfl
  · rfl
theorem catA_cat (c d : List To) (a : Ans) : catA c (catA d a) = catA (c ++ d) a := by
  unfold catA
  by_cases h : a.e = 0
  · simp [h]
  · simp [h]
/-- Blanks at the head are passed over. -/
theorem lexL_skip : ∀ (l : List UInt8) (at' : Nat), lexL at' l = lexL (at' + runL isBl l) (l.drop (runL isBl l))
  | [], at' => by simp [runL]
  | b :: r, at' => by
    by_cases h : isBl b = true
    · rw [lexL_blank h, lexL_skip r (at' + 1)]
      simp only [runL, h, if_true, List.drop_succ_cons]
      rw [show at' + 1 + runL isBl r = at' + (runL isBl r + 1) by omega]
    · simp [runL, h]

end Go.Proofs.YtlfcmelencdghaaDoor
