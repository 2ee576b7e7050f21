/-
  What is proved: plain facts on rising lists of days, on the document's own way of taking sets together, on pieces of a span and on how many days spans have. Conditions: none.
-/
import Derived.Test.YtamglmenljgbdaaSqMath
namespace Go.Proofs.Ytamglmenljgbdaa.Sp

theorem getD_at {α : Type} (D : List α) {i : Nat} (z : α) (h : i < D.length) : D.getD i z = D[i] := by
  simp [List.getD, h]
/-- Days that rise, each once. -/
def Rise (D : List Int) : Prop := D.Pairwise (· < ·)
theorem Rise.cons {x : Int} {D : List Int} (h : Rise (x :: D)) : (∀ y ∈ D, x < y) ∧ Rise D := by
  cases h with
  | cons a b => exact ⟨a, b⟩
theorem rise_one : ∀ {D F : List Int}, Rise D → Rise F → (∀ x, x ∈ D ↔ x ∈ F) → D = F
  | [], [], _, _, _ => rfl
  | [], y :: F, _, _, h => by have := (h y).2 (by simp); cases this
  | x :: D, [], _, _, h => by have := (h x).1 (by simp); cases this
  | x :: D, y :: F, hD, hF, h => by
    obtain ⟨a, a'⟩ := hD.cons
    obtain ⟨b, b'⟩ := hF.cons
    have e : x = y := by
      have h1 : x ∈ y :: F := (h x).1 (by simp)
      have h2 : y ∈ x :: D := (h y).2 (by simp)
      rcases List.mem_cons.1 h1 with h1 | h1
      · exact h1
      · rcases List.mem_cons.1 h2 with h2 | h2
        · exact h2.symm
        · have := a y h2; have := b x h1; omega
    subst e
    refine congrArg _ (rise_one a' b' (fun z => ⟨fun hz => ?_, fun hz => ?_⟩))
    · have := a z hz
      rcases List.mem_cons.1 ((h z).1 (List.mem_cons_of_mem _ hz)) with h3 | h3
      · omega
      · exact h3
    · have := b z hz
      rcases List.mem_cons.1 ((h z).2 (List.mem_cons_of_mem _ hz)) with h3 | h3
      · omega
      · exact h3
theorem rise_at {D : List Int} (h : Rise D) {i j : Nat} (hij : i < j) (hj : j < D.length) : D.getD i 0 < D.getD j 0 := by
  have := List.pairwise_iff_getElem.1 h i j (by omega) hj hij
  rw [getD_at _ _ (by omega), getD_at _ _ hj]
  exact this
/-- A day put into days that rise, at its place. -/
def putAt (D : List Int) (a : Nat) (d : Int) : List Int := if a < D.length ∧ D.getD a 0 = d then D else D.take a ++ [d] ++ D.drop a
theorem putAt_rise {D : List Int} {a : Nat} {d : Int} (hD : Rise D) (ha : a ≤ D.length) (h1 : ∀ j, j < a → D.getD j 0 < d) (h2 : a < D.length → d ≤ D.getD a 0) :
    Rise (putAt D a d) ∧ ∀ x, x ∈ putAt D a d ↔ x = d ∨ x ∈ D := by
  unfold putAt
  by_cases h : a < D.length ∧ D.getD a 0 = d
  · rw [if_pos h]
    refine ⟨hD, fun x => ⟨fun hx => .inr hx, fun hx => ?_⟩⟩
    rcases hx with rfl | hx
    · rw [← h.2, getD_at _ _ h.1]; exact List.getElem_mem _
    · exact hx
  · rw [if_neg h]
    have tk : ∀ x ∈ D.take a, x < d := fun x hx => by
      obtain ⟨j, hj, rfl⟩ := List.mem_iff_getElem.1 hx
      have hj' : j < a ∧ j < D.length := by rw [List.length_take] at hj; omega
      have := h1 j hj'.1
      rw [getD_at _ _ hj'.2] at this
      simpa using this
    have dr : ∀ x ∈ D.drop a, d < x := fun x hx => by
      obtain ⟨j, hj, rfl⟩ := List.mem_iff_getElem.1 hx
      have hj' : a + j < D.length := by simp at hj; omega
      have h0 := h2 (by omega)
      have hne : D.getD a 0 ≠ d := fun e => h ⟨by omega, e⟩
      rw [List.getElem_drop]
      have e1 : D.getD (a + j) 0 = D[a + j] := getD_at _ _ hj'
      rw [← e1]
      by_cases e : j = 0
      · subst e; simp only [Nat.add_zero]; omega
      · have := rise_at hD (i := a) (j := a + j) (by omega) hj'
        omega
    refine ⟨?_, fun x => ?_⟩
    · unfold Rise
      rw [List.append_assoc, List.pairwise_append]
      refine ⟨hD.take, ?_, ?_⟩
      · rw [List.singleton_append, List.pairwise_cons]
        exact ⟨fun y hy => dr y hy, hD.drop⟩
      · intro x hx y hy
        rw [List.singleton_append] at hy
        rcases List.mem_cons.1 hy with rfl | hy
        · exact tk x hx
        · have := tk x hx; have := dr y hy; omega
    · have hm : x ∈ D ↔ x ∈ D.take a ∨ x ∈ D.drop a := by
        rw [← List.mem_append, List.take_append_drop]
      rw [hm]
      simp only [List.mem_append, List.mem_singleton]
      constructor
      · rintro ((h | h) | h)
        · exact .inr (.inl h)
        · exact .inl h
        · exact .inr (.inr h)
      · rintro (h | h | h)
        · exact .inl (.inr h)
        · exact .inl (.inl h)
        · exact .inr h
theorem putAt_len {D : List Int} {a : Nat} {d : Int} : (putAt D a d).length ≤ D.length + 1 := by
  unfold putAt
  split
  · omega
  · simp; omega

/-- Is a day in one of the spans? -/
def hasB (L : List Sp) (d : Int) : Bool := decide (0 < many L d)
theorem hasB_iff {L : List Sp} {d : Int} : hasB L d = true ↔ Mem L d := by unfold hasB; rw [decide_eq_true_iff]; exact many_pos L d
theorem many_same : ∀ {L : List Sp} {d e : Int}, (∀ s ∈ L, s.1 < s.2 → ((s.1 ≤ d ↔ s.1 ≤ e) ∧ (d < s.2 ↔ e < s.2))) → many L d = many L e
  | [], _, _, _ => rfl
  | s :: r, d, e, h => by
    have h0 := many_same (L := r) (d := d) (e := e) (fun t ht => h t (List.mem_cons_of_mem _ ht))
    unfold many
    rw [h0]
    congr 1
    by_cases hs : s.1 < s.2
    · obtain ⟨a, b⟩ := h s (by simp) hs
      by_cases c : s.1 ≤ d ∧ d < s.2
      · rw [if_pos c, if_pos ⟨a.1 c.1, b.1 c.2⟩]
      · rw [if_neg c, if_neg (fun x => c ⟨a.2 x.1, b.2 x.2⟩)]
    · rw [if_neg (by omega), if_neg (by omega)]

/-- The document's way: what is closed, and where the open one began. -/
def refSt (P : Int → Bool) (D : Nat → Int) : Nat → List Sp × Option Int
  | 0 => ([], none)
  | k + 1 => match refSt P D k with
    | (K, none) => if P (D k) = true then (K, some (D k)) else (K, none)
    | (K, some f) => if P (D k) = true then (K, some f) else (K ++ [(f, D k)], none)
theorem refSt_len (P : Int → Bool) (D : Nat → Int) : ∀ k, (refSt P D k).1.length ≤ k ∧ ((refSt P D k).2.isSome = true → (refSt P D k).1.length < k)
  | 0 => ⟨Nat.le_refl _, fun h => by cases h⟩
  | k + 1 => by
    obtain ⟨a, b⟩ := refSt_len P D k
    unfold refSt
    match refSt P D k, a, b with
    | (K, none), a, b => by_cases h : P (D k) = true <;> simp [h] <;> simp at a <;> omega
    | (K, some f), a, b => by_cases h : P (D k) = true <;> simp [h] <;> simp at b <;> omega
structure RefInv (P : Int → Bool) (D : Nat → Int) (n k : Nat) (K : List Sp) (o : Option Int) : Prop where
  canon : Canon K
  last : ∀ t ∈ K, 0 < k ∧ t.2 ≤ D (k - 1)
  start : ∀ f, o = some f → 0 < k ∧ f ≤ D (k - 1) ∧ ∀ t ∈ K, t.2 < f
  isP : 0 < k → o.isSome = P (D (k - 1))
  days : ∀ d, (k < n → d < D k) → ((Mem K d ∨ ∃ f, o = some f ∧ f ≤ d) ↔ P d = true)
theorem refSt_inv {P : Int → Bool} {D : Nat → Int} {n : Nat} (hr : ∀ i, i + 1 < n → D i < D (i + 1)) (h0 : n = 0 → ∀ d, P d = false) (hl : ∀ d, 0 < n → d < D 0 → P d = false) (hc : ∀ i d, i + 1 < n → D i ≤ d → d < D (i + 1) → P d = P (D i)) (hh : ∀ d, 0 < n → D (n - 1) ≤ d → P d = false) :
    ∀ k, k ≤ n → RefInv P D n k (refSt P D k).1 (refSt P D k).2
  | 0, _ => by
    refine ⟨Canon.nil, (fun t ht => by cases ht), (fun f h => by cases h), (fun h => by omega), fun d hd => ⟨?_, fun h => ?_⟩⟩
    · rintro (h | ⟨f, h, _⟩)
      · exact absurd h (Mem_nil _)
      · cases h
    · by_cases e : n = 0
      · rw [h0 e d] at h; cases h
      · rw [hl d (by omega) (hd (by omega))] at h; cases h
  | k + 1, hk => by
    have ih := refSt_inv hr h0 hl hc hh k (by omega)
    have val : ∀ d, D k ≤ d → (k + 1 < n → d < D (k + 1)) → P d = P (D k) := fun d h1 h2 => by
      by_cases e : k + 1 < n
      · exact hc k d e h1 (h2 e)
      · obtain rfl : n = k + 1 := by omega
        rw [hh d (by omega) (by simpa using h1), hh (D k) (by omega) (by simp)]
    have up : 0 < k → D (k - 1) < D k := fun h => by
      have := hr (k - 1) (by omega)
      rwa [show k - 1 + 1 = k by omega] at this
    have notK : ∀ (K : List Sp) d, D k ≤ d → (∀ t ∈ K, 0 < k ∧ t.2 ≤ D (k - 1)) → ¬ Mem K d := by
      rintro K d hd hK ⟨t, ht, h1, h2⟩
      obtain ⟨a, b⟩ := hK t ht
      have := up a
      omega
    unfold refSt
    match hst : refSt P D k, ih with
    | (K, none), ih =>
      obtain ⟨c1, c2, c3, c4, c5⟩ := ih
      simp only at c1 c2 c3 c4 c5
      by_cases hP : P (D k) = true
      · dsimp only; rw [if_pos hP]
        refine ⟨c1, fun t ht => ?_, fun f hf => ?_, fun _ => by simp [hP], fun d hd => ?_⟩
        · obtain ⟨a, b⟩ := c2 t ht; have := up a; exact ⟨by omega, by simp; omega⟩
        · injection hf with hf; subst hf
          exact ⟨by omega, by simp, fun t ht => by obtain ⟨a, b⟩ := c2 t ht; have := up a; omega⟩
        · by_cases hdk : d < D k
          · rw [← c5 d (fun _ => hdk)]
            constructor
            · rintro (h | ⟨f, hf, h⟩)
              · exact .inl h
              · injection hf with hf; omega
            · rintro (h | ⟨f, hf, h⟩)
              · exact .inl h
              · cases hf
          · exact ⟨fun _ => by rw [val d (by omega) hd]; exact hP, fun _ => .inr ⟨_, rfl, by omega⟩⟩
      · dsimp only; rw [if_neg hP]
        refine ⟨c1, fun t ht => ?_, (fun f hf => by cases hf), fun _ => by simp at hP; simp [hP], fun d hd => ?_⟩
        · obtain ⟨a, b⟩ := c2 t ht; have := up a; exact ⟨by omega, by simp; omega⟩
        · by_cases hdk : d < D k
          · rw [← c5 d (fun _ => hdk)]
          · rw [val d (by omega) hd]
            constructor
            · rintro (h | ⟨f, hf, h⟩)
              · exact absurd h (notK K d (by omega) c2)
              · cases hf
            · intro h; exact absurd h hP
    | (K, some f), ih =>
      obtain ⟨c1, c2, c3, c4, c5⟩ := ih
      simp only at c1 c2 c3 c4 c5
      obtain ⟨f0, f1, f2⟩ := c3 f rfl
      have hup := up f0
      by_cases hP : P (D k) = true
      · dsimp only; rw [if_pos hP]
        refine ⟨c1, fun t ht => ?_, fun g hg => ?_, fun _ => by simp [hP], fun d hd => ?_⟩
        · obtain ⟨a, b⟩ := c2 t ht; exact ⟨by omega, by simp; omega⟩
        · injection hg with hg; subst hg
          exact ⟨by omega, by simp; omega, f2⟩
        · by_cases hdk : d < D k
          · rw [← c5 d (fun _ => hdk)]
          · exact ⟨fun _ => by rw [val d (by omega) hd]; exact hP, fun _ => .inr ⟨_, rfl, by omega⟩⟩
      · dsimp only; rw [if_neg hP]
        refine ⟨Canon.snoc.2 ⟨c1, f2, by show f < D k; omega⟩, fun t ht => ?_, (fun f hf => by cases hf), fun _ => by simp at hP; simp [hP], fun d hd => ?_⟩
        · refine ⟨by omega, ?_⟩
          rcases List.mem_append.1 ht with ht | ht
          · obtain ⟨a, b⟩ := c2 t ht; simp; omega
          · simp at ht; subst ht; simp
        · rw [Mem_app, Mem_one]
          show (Mem K d ∨ (f ≤ d ∧ d < D k)) ∨ _ ↔ _
          by_cases hdk : d < D k
          · rw [← c5 d (fun _ => hdk)]
            constructor
            · rintro ((h | h) | ⟨g, hg, h⟩)
              · exact .inl h
              · exact .inr ⟨f, rfl, h.1⟩
              · cases hg
            · rintro (h | ⟨g, hg, h⟩)
              · exact .inl (.inl h)
              · injection hg with hg; subst hg; exact .inl (.inr ⟨h, hdk⟩)
          · rw [val d (by omega) hd]
            constructor
            · rintro ((h | h) | ⟨g, hg, h⟩)
              · exact absurd h (notK K d (by omega) c2)
              · omega
              · cases hg
            · intro h; exact absurd h hP
theorem refSt_end {P : Int → Bool} {D : Nat → Int} {n : Nat} (hr : ∀ i, i + 1 < n → D i < D (i + 1)) (h0 : n = 0 → ∀ d, P d = false) (hl : ∀ d, 0 < n → d < D 0 → P d = false) (hc : ∀ i d, i + 1 < n → D i ≤ d → d < D (i + 1) → P d = P (D i)) (hh : ∀ d, 0 < n → D (n - 1) ≤ d → P d = false) :
    (refSt P D n).2 = none ∧ Canon (refSt P D n).1 ∧ ∀ d, Mem (refSt P D n).1 d ↔ P d = true := by
  obtain ⟨c1, c2, c3, c4, c5⟩ := refSt_inv hr h0 hl hc hh n (Nat.le_refl _)
  have hn : (refSt P D n).2 = none := by
    by_cases e : n = 0
    · subst e; rfl
    · have h := c4 (by omega)
      rw [hh (D (n - 1)) (by omega) (by omega)] at h
      cases ho : (refSt P D n).2 with
      | none => rfl
      | some f => rw [ho] at h; cases h
  refine ⟨hn, c1, fun d => ?_⟩
  rw [← c5 d (fun h => by omega), hn]
  constructor
  · exact fun h => .inl h
  · rintro (h | ⟨f, hf, _⟩)
    · exact h
    · cases hf

/-- Taken together: 1: one of both, 2: both, else the first one alone. -/
def wayB (way : Int) (x y : Bool) : Bool := if way = 1 then x || y else if way = 2 then x && y else x && !y
/-- The ends of spans, as days that rise, stand as the document's way wants them. -/
theorem ends_const {A : List Sp} {D : List Int} (hD : Rise D) (hE : ∀ s ∈ A, s.1 < s.2 → s.1 ∈ D ∧ s.2 ∈ D) :
    (D.length = 0 → ∀ d, hasB A d = false) ∧ (∀ d, 0 < D.length → d < D.getD 0 0 → hasB A d = false) ∧ (∀ i d, i + 1 < D.length → D.getD i 0 ≤ d → d < D.getD (i + 1) 0 → hasB A d = hasB A (D.getD i 0)) ∧ (∀ d, 0 < D.length → D.getD (D.length - 1) 0 ≤ d → hasB A d = false) := by
  have idx : ∀ x ∈ D, ∃ j, j < D.length ∧ D.getD j 0 = x := fun x hx => by
    obtain ⟨j, hj, e⟩ := List.mem_iff_getElem.1 hx
    exact ⟨j, hj, by rw [getD_at _ _ hj]; exact e⟩
  have no : ∀ d, (∀ s ∈ A, s.1 < s.2 → ¬ (s.1 ≤ d ∧ d < s.2)) → hasB A d = false := fun d h => by
    cases e : hasB A d
    · rfl
    · obtain ⟨s, hs, h1, h2⟩ := hasB_iff.1 e
      exact absurd ⟨h1, h2⟩ (h s hs (by omega))
  have le : ∀ i j, i ≤ j → j < D.length → D.getD i 0 ≤ D.getD j 0 := fun i j hij hj => by
    by_cases e : i = j
    · subst e; omega
    · have := rise_at hD (i := i) (j := j) (by omega) hj; omega
  refine ⟨fun h d => no d (fun s hs h1 _ => ?_), fun d h hd => no d (fun s hs h1 h2 => ?_), fun i d hi h1 h2 => ?_, fun d h hd => no d (fun s hs h1 h2 => ?_)⟩
  · obtain ⟨j, hj, _⟩ := idx _ (hE s hs h1).1; omega
  · obtain ⟨j, hj, e⟩ := idx _ (hE s hs h1).1
    have := le 0 j (by omega) hj
    omega
  · unfold hasB
    rw [many_same (d := d) (e := D.getD i 0) (fun s hs hlt => ?_)]
    obtain ⟨a, ha, ea⟩ := idx _ (hE s hs hlt).1
    obtain ⟨b, hb, eb⟩ := idx _ (hE s hs hlt).2
    have key : ∀ j, j < D.length → (D.getD j 0 ≤ d ↔ D.getD j 0 ≤ D.getD i 0) := fun j hj => by
      by_cases hij : j ≤ i
      · have := le j i hij (by omega); omega
      · have := le (i + 1) j (by omega) hj
        have := rise_at hD (i := i) (j := i + 1) (by omega) hi
        omega
    have k1 := key a ha
    have k2 := key b hb
    rw [ea] at k1
    rw [eb] at k2
    omega
  · obtain ⟨j, hj, e⟩ := idx _ (hE s hs h1).2
    have := le j (D.length - 1) (by omega) (by omega)
    omega
theorem wayB_ff (way : Int) : wayB way false false = false := by unfold wayB; split; rfl; split <;> rfl
/-- What the document's Together comes to. -/
theorem together_end {A B : List Sp} {D : List Int} (way : Int) (hD : Rise D) (hA : ∀ s ∈ A, s.1 < s.2 → s.1 ∈ D ∧ s.2 ∈ D) (hB : ∀ s ∈ B, s.1 < s.2 → s.1 ∈ D ∧ s.2 ∈ D) :
    (refSt (fun d => wayB way (hasB A d) (hasB B d)) (fun i => D.getD i 0) D.length).2 = none ∧ Canon (refSt (fun d => wayB way (hasB A d) (hasB B d)) (fun i => D.getD i 0) D.length).1 ∧ ∀ d, Mem (refSt (fun d => wayB way (hasB A d) (hasB B d)) (fun i => D.getD i 0) D.length).1 d ↔ wayB way (hasB A d) (hasB B d) = true := by
  obtain ⟨a1, a2, a3, a4⟩ := ends_const hD hA
  obtain ⟨b1, b2, b3, b4⟩ := ends_const hD hB
  exact refSt_end (fun i hi => rise_at hD (by omega) hi) (fun h d => by rw [a1 h, b1 h]; exact wayB_ff _) (fun d h hd => by rw [a2 d h hd, b2 d h hd]; exact wayB_ff _)
    (fun i d hi h1 h2 => by rw [a3 i d hi h1 h2, b3 i d hi h1 h2]) (fun d h hd => by rw [a4 d h hd, b4 d h hd]; exact wayB_ff _)

/-- The pieces of a span, cut at days. -/
def pcs : Int → List Int → Int → List Sp
  | f, [], t => [(f, t)]
  | f, c :: r, t => (f, c) :: pcs c r t
def prs : Int → List Int → List Sp
  | _, [] => []
  | f, c :: r => (f, c) :: prs c r
theorem prs_snoc : ∀ (f : Int) (r : List Int) (c : Int), prs f (r ++ [c]) = prs f r ++ [(r.getLastD f, c)]
  | f, [], c => rfl
  | f, x :: r, c => by
    show (f, x) :: prs x (r ++ [c]) = (f, x) :: prs x r ++ [(_, c)]
    rw [prs_snoc x r c, List.getLastD_cons]
    rfl
theorem pcs_snoc : ∀ (f : Int) (r : List Int) (t : Int), pcs f r t = prs f r ++ [(r.getLastD f, t)]
  | f, [], t => rfl
  | f, x :: r, t => by
    show (f, x) :: pcs x r t = (f, x) :: prs x r ++ [(_, t)]
    rw [pcs_snoc x r t, List.getLastD_cons]
    rfl
theorem prs_len : ∀ (f : Int) (r : List Int), (prs f r).length = r.length
  | _, [] => rfl
  | f, x :: r => by show (prs x r).length + 1 = r.length + 1; rw [prs_len x r]
theorem pcs_len (f : Int) (r : List Int) (t : Int) : (pcs f r t).length = r.length + 1 := by rw [pcs_snoc]; simp [prs_len]
theorem pcs_at : ∀ (f : Int) (r : List Int) (t : Int) (i : Nat), i < r.length + 1 → (pcs f r t).getD i (0, 0) = ((f :: r).getD i 0, if i + 1 < r.length + 1 then (f :: r).getD (i + 1) 0 else t)
  | f, [], t, i, h => by
    obtain rfl : i = 0 := by simp at h; omega
    rfl
  | f, x :: r, t, 0, h => by simp [pcs]
  | f, x :: r, t, i + 1, h => by
    have := pcs_at x r t i (by simpa using h)
    show (pcs x r t).getD i (0, 0) = _
    rw [this]
    simp
theorem pcs_days : ∀ {f : Int} {r : List Int} {t : Int}, Rise (f :: r) → (∀ x ∈ f :: r, x < t) → ∀ d, Mem (pcs f r t) d ↔ f ≤ d ∧ d < t
  | f, [], t, _, _, d => by show Mem [(f, t)] d ↔ _; rw [Mem_one]
  | f, x :: r, t, hr, ht, d => by
    obtain ⟨h1, h2⟩ := hr.cons
    have h3 := h1 x (by simp)
    have h4 := ht x (by simp)
    show Mem ((f, x) :: pcs x r t) d ↔ _
    rw [Mem_cons, pcs_days h2 (fun y hy => ht y (List.mem_cons_of_mem _ hy)) d]
    show (f ≤ d ∧ d < x) ∨ _ ↔ _
    omega

/-- How many days a span has, and spans. -/
def lenS (s : Sp) : Int := if s.2 ≤ s.1 then 0 else s.2 - s.1
def cut62 (x : Int) : Int := if x ≤ 4611686018427387904 then x else 4611686018427387904
def dsum : List Sp → Int
  | [] => 0
  | s :: r => lenS s + dsum r
theorem lenS_nn (s : Sp) : 0 ≤ lenS s := by unfold lenS; split <;> omega
theorem dsum_nn : ∀ L, 0 ≤ dsum L
  | [] => Int.le_refl _
  | s :: r => by have := lenS_nn s; have := dsum_nn r; unfold dsum; omega
theorem dsum_app : ∀ (K L : List Sp), dsum (K ++ L) = dsum K + dsum L
  | [], L => by simp [dsum]
  | s :: r, L => by rw [List.cons_append, dsum, dsum, dsum_app r L]; omega
theorem dsum_snoc (K : List Sp) (s : Sp) : dsum (K ++ [s]) = dsum K + lenS s := by rw [dsum_app]; simp [dsum]
theorem pcs_dsum : ∀ {f : Int} {r : List Int} {t : Int}, Rise (f :: r) → (∀ x ∈ f :: r, x < t) → dsum (pcs f r t) = t - f
  | f, [], t, _, ht => by
    have := ht f (by simp)
    show dsum [(f, t)] = _
    simp only [dsum, lenS]
    rw [if_neg (by omega)]; omega
  | f, x :: r, t, hr, ht => by
    obtain ⟨h1, h2⟩ := hr.cons
    have h3 := h1 x (by simp)
    show dsum ((f, x) :: pcs x r t) = _
    rw [dsum, pcs_dsum h2 (fun y hy => ht y (List.mem_cons_of_mem _ hy))]
    simp only [lenS]
    rw [if_neg (by omega)]; omega
/-- How many days from a on, of n, are such. -/
def cntP (P : Int → Bool) (a : Int) : Nat → Int
  | 0 => 0
  | n + 1 => cntP P a n + (if P (a + n) = true then 1 else 0)
theorem cntP_add {P Q R S : Int → Bool} (a : Int) : ∀ (n : Nat), (∀ d, (if P d = true then (1 : Int) else 0) + (if Q d = true then 1 else 0) = (if R d = true then 1 else 0) + (if S d = true then 1 else 0)) → cntP P a n + cntP Q a n = cntP R a n + cntP S a n
  | 0, _ => rfl
  | n + 1, h => by
    have h1 := cntP_add (P := P) (Q := Q) (R := R) (S := S) a n h
    have h2 := h (a + n)
    unfold cntP
    omega
theorem cntP_no (a : Int) : ∀ (n : Nat), cntP (fun _ => false) a n = 0
  | 0 => rfl
  | n + 1 => by unfold cntP; rw [cntP_no a n]; rfl
theorem cntP_span (x y a : Int) (hxy : x ≤ y) (hx : a ≤ x) : ∀ (n : Nat), cntP (fun d => decide (x ≤ d ∧ d < y)) a n = if a + n ≤ x then 0 else if a + n ≤ y then a + n - x else y - x
  | 0 => by unfold cntP; split; rfl; split <;> omega
  | n + 1 => by
    unfold cntP
    rw [cntP_span x y a hxy hx n]
    simp only [decide_eq_true_eq]
    by_cases h : x ≤ a + n ∧ a + n < y
    · rw [if_pos h]; push_cast; repeat' split
      all_goals omega
    · rw [if_neg h]; push_cast; repeat' split
      all_goals omega
theorem dsum_cnt (a : Int) (n : Nat) : ∀ {K : List Sp}, Canon K → (∀ s ∈ K, a ≤ s.1 ∧ s.2 ≤ a + n) → dsum K = cntP (hasB K) a n
  | [], _, _ => by
    have : hasB [] = fun _ => false := by funext d; simp [hasB, many]
    rw [this, cntP_no]; rfl
  | s :: r, hK, hb => by
    obtain ⟨h1, h2, h3⟩ := hK.cons
    obtain ⟨b1, b2⟩ := hb s (by simp)
    have h0 := dsum_cnt a n h3 (fun t ht => hb t (List.mem_cons_of_mem _ ht))
    have hs := cntP_span s.1 s.2 a (by omega) b1 n
    have hadd := cntP_add (P := fun d => decide (s.1 ≤ d ∧ d < s.2)) (Q := hasB r) (R := hasB (s :: r)) (S := fun _ => false) a n (fun d => by
      by_cases c : s.1 ≤ d ∧ d < s.2
      · have nr : hasB r d = false := by
          cases e : hasB r d
          · rfl
          · obtain ⟨t, ht, h4, h5⟩ := hasB_iff.1 e
            have := h2 t ht
            omega
        have yes : hasB (s :: r) d = true := hasB_iff.2 ((Mem_cons ..).2 (.inl c))
        simp [nr, yes, c]
      · have e : hasB (s :: r) d = hasB r d := by
          unfold hasB
          rw [show many (s :: r) d = many r d by rw [many, if_neg c]; omega]
        rw [e]
        simp [c])
    rw [cntP_no] at hadd
    rw [dsum, h0]
    unfold lenS
    rw [if_neg (by omega)]
    rw [hs] at hadd
    rw [if_neg (by omega)] at hadd
    split at hadd <;> omega

end Go.Proofs.Ytamglmenljgbdaa.Sp
