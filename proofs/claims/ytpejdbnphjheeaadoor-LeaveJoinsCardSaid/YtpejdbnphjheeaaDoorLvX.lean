/-
  What is proved: what changing about, joining and lessening of moves does to the years' account. Conditions: as each says.
-/
import Derived.Test.YtpejdbnphjheeaaDoorLvW
namespace Go.Proofs.YtpejdbnphjheeaaDoor
open Go Go.RowKit Go.Proofs Go.Proofs.YtpejdbnphjheeaaDoor.Cv
set_option linter.unusedVariables false

/-! Lists of moves, taken apart. -/
theorem mvL_split {n k : Nat} {D G T : Nat → Int} (h : k ≤ n) : mvL n D G T = mvL k D G T ++ mvL (n - k) (fun j => D (k + j)) (fun j => G (k + j)) (fun j => T (k + j)) := by
  obtain ⟨r, rfl⟩ : ∃ r, n = k + r := ⟨n - k, by omega⟩
  unfold mvL
  rw [List.range_add, List.map_append, List.map_map, Nat.add_sub_cancel_left]
  rfl
theorem mvL_head (n : Nat) (D G T : Nat → Int) : mvL (n + 1) D G T = (D 0, G 0, T 0) :: mvL n (fun j => D (j + 1)) (fun j => G (j + 1)) (fun j => T (j + 1)) := by
  unfold mvL
  rw [List.range_succ_eq_map, List.map_cons, List.map_map]
  rfl
theorem mvL_congr {n : Nat} {D G T D' G' T' : Nat → Int} (h : ∀ j, j < n → D j = D' j ∧ G j = G' j ∧ T j = T' j) : mvL n D G T = mvL n D' G' T' := by
  unfold mvL
  refine List.map_congr_left (fun j hj => ?_)
  obtain ⟨a, b, c⟩ := h j (List.mem_range.1 hj)
  rw [a, b, c]
theorem mvC_split {n k : Nat} {D G T : Nat → Int} (h : k ≤ n) : mvC n D G T = mvC k D G T ++ mvC (n - k) (fun j => D (k + j)) (fun j => G (k + j)) (fun j => T (k + j)) := by
  obtain ⟨r, rfl⟩ : ∃ r, n = k + r := ⟨n - k, by omega⟩
  unfold mvC
  rw [List.range_add, List.flatMap_append, List.flatMap_map, Nat.add_sub_cancel_left]
theorem mvC_congr {n : Nat} {D G T D' G' T' : Nat → Int} (h : ∀ j, j < n → D j = D' j ∧ G j = G' j ∧ T j = T' j) : mvC n D G T = mvC n D' G' T' := by
  unfold mvC
  rw [List.flatMap_def, List.flatMap_def]
  congr 1
  refine List.map_congr_left (fun j hj => ?_)
  obtain ⟨a, b, c⟩ := h j (List.mem_range.1 hj)
  rw [a, b, c]

/-! Two accounts side by side. -/
def z0 : Bal := ⟨0, 0, 0, 0, 0⟩
theorem years_rel {R : Bal → Bal → Prop} {Y0 Ca Ex u : Int} {l l' : List Mv} (h0 : R z0 z0) (hs : ∀ b b' d, R b b' → R (stepE u Ca b (.turn d)) (stepE u Ca b' (.turn d)) ∧ R (stepE u Ca b (.exp d)) (stepE u Ca b' (.exp d)))
    (hf : ∀ b b' a c, R b b' → R (applyE u Ca b ((l.filter (inY a c)).map mvE)) (applyE u Ca b' ((l'.filter (inY a c)).map mvE))) : ∀ i, R (yearsE Y0 Ca Ex u l i) (yearsE Y0 Ca Ex u l' i)
  | 0 => h0
  | i + 1 => by
    have ih := years_rel (Y0 := Y0) (Ex := Ex) h0 hs hf i
    show R (applyE u Ca (yearsE Y0 Ca Ex u l i) _) (applyE u Ca (yearsE Y0 Ca Ex u l' i) _)
    generalize yearsE Y0 Ca Ex u l i = b at *
    generalize yearsE Y0 Ca Ex u l' i = b' at *
    unfold yearL
    rw [applyE_app, applyE_app]
    have ht : R (applyE u Ca b (if Y0 < Y0 + (i : Int) then [.turn (mstart (Y0 + (i : Int)) 1)] else [])) (applyE u Ca b' (if Y0 < Y0 + (i : Int) then [.turn (mstart (Y0 + (i : Int)) 1)] else [])) := by
      split
      · exact (hs _ _ _ ih).1
      · exact ih
    generalize applyE u Ca b (if Y0 < Y0 + (i : Int) then [.turn (mstart (Y0 + (i : Int)) 1)] else []) = c at *
    generalize applyE u Ca b' (if Y0 < Y0 + (i : Int) then [.turn (mstart (Y0 + (i : Int)) 1)] else []) = c' at *
    split
    · rw [applyE_app, applyE_app]
      have h1 := hf _ _ (mstart (Y0 + (i : Int)) 1) (mstart (Y0 + (i : Int)) (1 + Ex)) ht
      exact hf _ _ _ _ (hs _ _ _ h1).2
    · exact hf _ _ _ _ ht
theorem turn_ca {u c : Int} (b : Bal) (d : Int) (hc : 0 ≤ c) (h : 0 ≤ b.ca) : 0 ≤ (stepE u c b (.turn d)).ca ∧ 0 ≤ (stepE u c b (.exp d)).ca := by
  unfold stepE
  constructor <;> split <;> first | exact h | (simp only [Ev.act, Bal.turn, Bal.exp]; omega) | (simp only [Ev.act, Bal.turn, Bal.exp]; exact Int.le_refl _)
/-- Changed about. -/
theorem years_sw {Y0 Ca Ex u : Int} {n k : Nat} {D G T : Nat → Int} (hv : checkV Y0 Ca Ex u n D G T = 0) (hk : k + 1 < n) (hd : D k = D (k + 1)) (h : (G k = 0 ∧ G (k + 1) = 0) ∨ (T k = 0 ∧ T (k + 1) = 0)) (i : Nat) :
    yearsE Y0 Ca Ex u (mvL n D G T) i = yearsE Y0 Ca Ex u (mvL n (swN D k) (swN G k) (swN T k)) i := by
  obtain ⟨⟨y0, y9, c0, c9, x0, x9⟩, -, -, hg, -⟩ := check_zero hv
  obtain ⟨r, rfl⟩ : ∃ r, n = k + (r + 1 + 1) := ⟨n - k - 2, by omega⟩
  have e1 : mvL (k + (r + 1 + 1)) D G T = mvL k D G T ++ (D k, G k, T k) :: (D (k + 1), G (k + 1), T (k + 1)) :: mvL r (fun j => D (k + (j + 1 + 1))) (fun j => G (k + (j + 1 + 1))) (fun j => T (k + (j + 1 + 1))) := by
    rw [mvL_split (show k ≤ k + (r + 1 + 1) by omega), Nat.add_sub_cancel_left, mvL_head, mvL_head]; rfl
  have e2 : mvL (k + (r + 1 + 1)) (swN D k) (swN G k) (swN T k) = mvL k D G T ++ (D (k + 1), G (k + 1), T (k + 1)) :: (D k, G k, T k) :: mvL r (fun j => D (k + (j + 1 + 1))) (fun j => G (k + (j + 1 + 1))) (fun j => T (k + (j + 1 + 1))) := by
    rw [mvL_split (show k ≤ k + (r + 1 + 1) by omega), Nat.add_sub_cancel_left, mvL_head, mvL_head]
    have f0 : ∀ f : Nat → Int, swN f k (k + 0) = f (k + 1) := fun f => by rw [swN_at]; simp
    have f1 : ∀ f : Nat → Int, swN f k (k + (0 + 1)) = f k := fun f => by rw [swN_at]; simp
    rw [f0, f0, f0, f1, f1, f1]
    rw [mvL_congr (n := k) (D' := D) (G' := G) (T' := T) (fun j hj => by
      rw [swN_at, swN_at, swN_at]
      refine ⟨?_, ?_, ?_⟩ <;> rw [if_neg (by omega), if_neg (by omega)])]
    rw [mvL_congr (n := r) (D' := fun j => D (k + (j + 1 + 1))) (G' := fun j => G (k + (j + 1 + 1))) (T' := fun j => T (k + (j + 1 + 1))) (fun j hj => by
      simp only [swN_at]
      refine ⟨?_, ?_, ?_⟩ <;> rw [if_neg (by omega), if_neg (by omega)])]
  have ho := hg k (by omega)
  have ho' := hg (k + 1) (by omega)
  rw [e1, e2]
  have hA : ∀ z ∈ mvL k D G T, (mvE z).ok := fun z hz => by obtain ⟨j, hj, rfl⟩ := mvL_mem hz; exact (hg j (by omega)).2.2
  have hB : ∀ z ∈ mvL r (fun j => D (k + (j + 1 + 1))) (fun j => G (k + (j + 1 + 1))) (fun j => T (k + (j + 1 + 1))), (mvE z).ok := fun z hz => by obtain ⟨j, hj, rfl⟩ := mvL_mem hz; exact (hg (k + (j + 1 + 1)) (by omega)).2.2
  refine (years_rel (R := fun b b' => b = b' ∧ 0 ≤ b.ca) (Y0 := Y0) (Ex := Ex) (u := u) (Ca := Ca) ⟨rfl, by simp [z0]⟩ (fun b b' d hb => ?_) (fun b b' a c hb => ?_) i).1
  · obtain ⟨rfl, hb⟩ := hb
    exact ⟨⟨rfl, (turn_ca b d c0 hb).1⟩, ⟨rfl, (turn_ca b d c0 hb).2⟩⟩
  · obtain ⟨rfl, hb⟩ := hb
    refine ⟨apply_swap (x := (D k, G k, T k)) (y := (D (k + 1), G (k + 1), T (k + 1))) c0 hd ho.2.2 ho'.2.2 h _ (by unfold inY; rw [hd]) _ _ hA b hb, ?_⟩
    refine (applyE_mono c0 _ b (fun e he => ?_) hb).1
    obtain ⟨z, hz, rfl⟩ := List.mem_map.1 he
    have hz := (List.mem_filter.1 hz).1
    rcases List.mem_append.1 hz with hz | hz
    · exact hA z hz
    · rcases List.mem_cons.1 hz with rfl | hz
      · exact ho.2.2
      · rcases List.mem_cons.1 hz with rfl | hz
        · exact ho'.2.2
        · exact hB z hz

/-! Joined, and less. -/
def jD (D : Nat → Int) (k : Nat) : Nat → Int := fun j => if j ≤ k then D j else D (j - 1)
def jG (G : Nat → Int) (k : Nat) : Nat → Int := fun j => if j < k then G j else if j = k then G k / 2 else if j = k + 1 then G k - G k / 2 else G (j - 1)
def jT (T : Nat → Int) (k : Nat) : Nat → Int := fun j => if j < k then T j else if j = k then 0 else T (j - 1)
theorem jD0 (D : Nat → Int) (k : Nat) : jD D k k = D k := by unfold jD; rw [if_pos (Nat.le_refl _)]
theorem jG0 (G : Nat → Int) (k : Nat) : jG G k k = G k / 2 := by unfold jG; rw [if_neg (Nat.lt_irrefl _), if_pos rfl]
theorem jT0 (T : Nat → Int) (k : Nat) : jT T k k = 0 := by unfold jT; rw [if_neg (Nat.lt_irrefl _), if_pos rfl]
theorem jD1 (D : Nat → Int) (k : Nat) : jD D k (k + 1) = D k := by unfold jD; rw [if_neg (by omega)]; rfl
theorem jG1 (G : Nat → Int) (k : Nat) : jG G k (k + 1) = G k - G k / 2 := by unfold jG; rw [if_neg (by omega), if_neg (by omega), if_pos rfl]
theorem jT1 (T : Nat → Int) (k : Nat) : jT T k (k + 1) = T k := by unfold jT; rw [if_neg (by omega), if_neg (by omega)]; rfl
theorem j_check {Y0 Ca Ex u : Int} {n k : Nat} {D G T : Nat → Int} (hk : k < n) (hn : n ≤ 900) (h : checkV Y0 Ca Ex u n D G T = 0) : checkV Y0 Ca Ex u (n + 1) (jD D k) (jG G k) (jT T k) = 0 := by
  obtain ⟨h1, h2, h3, h4, h5⟩ := check_zero h
  refine check_of h1 h2 (by omega) (fun j hj => ?_) (fun i j a b => ?_)
  · unfold jD jG jT
    simp only [Ev.ok] at h4 ⊢
    have a := h4 k hk
    by_cases c : j < k
    · have := h4 j (by omega)
      rw [if_pos (by omega), if_pos c, if_pos c]; exact this
    · by_cases c2 : j = k
      · subst c2
        rw [if_pos (by omega), if_neg c, if_pos rfl, if_neg c, if_pos rfl]
        refine ⟨a.1, a.2.1, ?_⟩; omega
      · have b := h4 (j - 1) (by omega)
        rw [if_neg (by omega), if_neg c, if_neg c2, if_neg c, if_neg c2]
        refine ⟨b.1, b.2.1, ?_⟩
        split
        · rename_i e
          have e' : j - 1 = k := by omega
          rw [e'] at b ⊢
          omega
        · exact b.2.2
  · unfold jD
    split <;> split
    · exact h5 _ _ (by omega) (by omega)
    · exact h5 _ _ (by omega) (by omega)
    · omega
    · exact h5 _ _ (by omega) (by omega)
theorem l_check {Y0 Ca Ex u : Int} {n k : Nat} {D G T : Nat → Int} (hk : k < n) (h : checkV Y0 Ca Ex u n D G T = 0) : checkV Y0 Ca Ex u n D (putA G k (G k / 2)) T = 0 := by
  obtain ⟨h1, h2, h3, h4, h5⟩ := check_zero h
  refine check_of h1 h2 h3 (fun j hj => ?_) h5
  obtain ⟨a, b, c⟩ := h4 j hj
  refine ⟨a, b, ?_⟩
  simp only [Ev.ok, putA] at c ⊢
  split
  · rename_i e; subst e; omega
  · exact c
theorem step_join {u c : Int} {d g t : Int} (b : Bal) (g0 : 0 ≤ g) (t0 : 0 ≤ t) (hca : 0 ≤ b.ca) : stepE u c (stepE u c b (.mv d (g / 2) 0)) (.mv d (g - g / 2) t) = stepE u c b (.mv d g t) := by
  unfold stepE
  by_cases hu : d ≤ u
  · rw [if_pos (show (Ev.mv d (g / 2) 0).day ≤ u from hu), if_pos (show (Ev.mv d (g - g / 2) t).day ≤ u from hu), if_pos (show (Ev.mv d g t).day ≤ u from hu)]
    simp only [Ev.act, Bal.mv]
    apply Bal.ext' <;> simp only <;> omega
  · rw [if_neg (show ¬ (Ev.mv d (g / 2) 0).day ≤ u from hu), if_neg (show ¬ (Ev.mv d (g - g / 2) t).day ≤ u from hu), if_neg (show ¬ (Ev.mv d g t).day ≤ u from hu)]
theorem filter_ca {u c : Int} (hc : 0 ≤ c) (p : Mv → Bool) (A : List Mv) (hA : ∀ z ∈ A, (mvE z).ok) (b : Bal) (hb : 0 ≤ b.ca) : 0 ≤ (applyE u c b ((A.filter p).map mvE)).ca :=
  (applyE_mono (u := u) hc ((A.filter p).map mvE) b (fun e he => by
    obtain ⟨z, hz, rfl⟩ := List.mem_map.1 he
    exact hA z (List.mem_filter.1 hz).1) hb).1
theorem years_join {Y0 Ca Ex u : Int} {n k : Nat} {D G T : Nat → Int} (hv : checkV Y0 Ca Ex u n D G T = 0) (hk : k < n) (i : Nat) :
    yearsE Y0 Ca Ex u (mvL (n + 1) (jD D k) (jG G k) (jT T k)) i = yearsE Y0 Ca Ex u (mvL n D G T) i := by
  obtain ⟨⟨y0, y9, c0, c9, x0, x9⟩, -, -, hg, -⟩ := check_zero hv
  obtain ⟨r, rfl⟩ : ∃ r, n = k + (r + 1) := ⟨n - k - 1, by omega⟩
  have e1 : mvL (k + (r + 1)) D G T = mvL k D G T ++ (D k, G k, T k) :: mvL r (fun j => D (k + (j + 1))) (fun j => G (k + (j + 1))) (fun j => T (k + (j + 1))) := by
    rw [mvL_split (show k ≤ k + (r + 1) by omega), Nat.add_sub_cancel_left, mvL_head]; rfl
  have e2 : mvL (k + (r + 1) + 1) (jD D k) (jG G k) (jT T k) = mvL k D G T ++ (D k, G k / 2, 0) :: (D k, G k - G k / 2, T k) :: mvL r (fun j => D (k + (j + 1))) (fun j => G (k + (j + 1))) (fun j => T (k + (j + 1))) := by
    rw [show k + (r + 1) + 1 = k + (r + 1 + 1) by omega, mvL_split (show k ≤ k + (r + 1 + 1) by omega), Nat.add_sub_cancel_left, mvL_head, mvL_head]
    have a0 : jD D k (k + 0) = D k := jD0 D k
    have a1 : jG G k (k + 0) = G k / 2 := jG0 G k
    have a2 : jT T k (k + 0) = 0 := jT0 T k
    have b0 : jD D k (k + (0 + 1)) = D k := jD1 D k
    have b1 : jG G k (k + (0 + 1)) = G k - G k / 2 := jG1 G k
    have b2 : jT T k (k + (0 + 1)) = T k := jT1 T k
    rw [a0, a1, a2, b0, b1, b2]
    rw [mvL_congr (n := k) (D' := D) (G' := G) (T' := T) (fun j hj => by
      unfold jD jG jT
      refine ⟨?_, ?_, ?_⟩ <;> rw [if_pos (by omega)])]
    rw [mvL_congr (n := r) (D' := fun j => D (k + (j + 1))) (G' := fun j => G (k + (j + 1))) (T' := fun j => T (k + (j + 1))) (fun j hj => by
      unfold jD jG jT
      refine ⟨?_, ?_, ?_⟩
      · rw [if_neg (by omega)]; rfl
      · rw [if_neg (by omega), if_neg (by omega), if_neg (by omega)]; rfl
      · rw [if_neg (by omega), if_neg (by omega)]; rfl)]
  have ho := hg k (by omega)
  simp only [Ev.ok] at ho
  rw [e1, e2]
  have hA : ∀ z ∈ mvL k D G T, (mvE z).ok := fun z hz => by obtain ⟨j, hj, rfl⟩ := mvL_mem hz; exact (hg j (by omega)).2.2
  have hB : ∀ z ∈ mvL r (fun j => D (k + (j + 1))) (fun j => G (k + (j + 1))) (fun j => T (k + (j + 1))), (mvE z).ok := fun z hz => by obtain ⟨j, hj, rfl⟩ := mvL_mem hz; exact (hg (k + (j + 1)) (by omega)).2.2
  refine (years_rel (R := fun b b' => b = b' ∧ 0 ≤ b.ca) (Y0 := Y0) (Ex := Ex) (u := u) (Ca := Ca) ⟨rfl, by simp [z0]⟩ (fun b b' d hb => ?_) (fun b b' a c hb => ?_) i).1
  · obtain ⟨rfl, hb⟩ := hb
    exact ⟨⟨rfl, (turn_ca b d c0 hb).1⟩, ⟨rfl, (turn_ca b d c0 hb).2⟩⟩
  · obtain ⟨rfl, hb⟩ := hb
    have key : applyE u Ca b (((mvL k D G T ++ (D k, G k / 2, 0) :: (D k, G k - G k / 2, T k) :: mvL r (fun j => D (k + (j + 1))) (fun j => G (k + (j + 1))) (fun j => T (k + (j + 1)))).filter (inY a c)).map mvE) = applyE u Ca b (((mvL k D G T ++ (D k, G k, T k) :: mvL r (fun j => D (k + (j + 1))) (fun j => G (k + (j + 1))) (fun j => T (k + (j + 1)))).filter (inY a c)).map mvE) := by
      rw [List.filter_append, List.filter_append, List.map_append, List.map_append, applyE_app, applyE_app]
      have hca := filter_ca (u := u) c0 (inY a c) _ hA b hb
      generalize applyE u Ca b (((mvL k D G T).filter (inY a c)).map mvE) = b1 at hca
      by_cases hp : inY a c (D k, G k, T k) = true
      · rw [List.filter_cons_of_pos (by exact hp), List.filter_cons_of_pos (by exact hp), List.filter_cons_of_pos hp]
        show applyE u Ca (stepE u Ca (stepE u Ca b1 _) _) _ = applyE u Ca (stepE u Ca b1 _) _
        unfold mvE
        rw [step_join (g := G k) (t := T k) b1 (by omega) (by omega) hca]
      · rw [List.filter_cons_of_neg (by exact hp), List.filter_cons_of_neg (by exact hp), List.filter_cons_of_neg hp]
    refine ⟨key, ?_⟩
    rw [key]
    refine filter_ca c0 _ _ (fun z hz => ?_) b hb
    rcases List.mem_append.1 hz with hz | hz
    · exact hA z hz
    · rcases List.mem_cons.1 hz with rfl | hz
      · exact (hg k (by omega)).2.2
      · exact hB z hz
/-- Not more left, not more lost. -/
def LeB (a b : Bal) : Prop := a.fr ≤ b.fr ∧ a.ca ≤ b.ca ∧ a.lo ≤ b.lo
theorem leB_step {u c : Int} {a b : Bal} (h : LeB a b) (e e' : Ev) (he : e = e' ∨ ∃ d g g' t, e = .mv d g t ∧ e' = .mv d g' t ∧ g ≤ g') : LeB (stepE u c a e) (stepE u c b e') := by
  unfold LeB at *
  rcases he with rfl | ⟨d, g, g', t, rfl, rfl, hg⟩
  · unfold stepE
    split
    · cases e <;> simp only [Ev.act, Bal.turn, Bal.exp, Bal.mv] <;> omega
    · exact h
  · unfold stepE
    by_cases hu : d ≤ u
    · rw [if_pos (show (Ev.mv d g t).day ≤ u from hu), if_pos (show (Ev.mv d g' t).day ≤ u from hu)]
      simp only [Ev.act, Bal.mv]; omega
    · rw [if_neg (show ¬ (Ev.mv d g t).day ≤ u from hu), if_neg (show ¬ (Ev.mv d g' t).day ≤ u from hu)]
      exact h
theorem leB_apply {u c : Int} : ∀ (es : List Ev) {a b : Bal}, LeB a b → LeB (applyE u c a es) (applyE u c b es)
  | [], _, _, h => h
  | e :: r, _, _, h => leB_apply r (leB_step h e e (.inl rfl))
theorem years_less {Y0 Ca Ex u : Int} {n k : Nat} {D G T : Nat → Int} (hk : k < n) (hg : 0 ≤ G k) (i : Nat) : LeB (yearsE Y0 Ca Ex u (mvL n D (putA G k (G k / 2)) T) i) (yearsE Y0 Ca Ex u (mvL n D G T) i) := by
  obtain ⟨r, rfl⟩ : ∃ r, n = k + (r + 1) := ⟨n - k - 1, by omega⟩
  have e1 : mvL (k + (r + 1)) D G T = mvL k D G T ++ (D k, G k, T k) :: mvL r (fun j => D (k + (j + 1))) (fun j => G (k + (j + 1))) (fun j => T (k + (j + 1))) := by
    rw [mvL_split (show k ≤ k + (r + 1) by omega), Nat.add_sub_cancel_left, mvL_head]; rfl
  have e2 : mvL (k + (r + 1)) D (putA G k (G k / 2)) T = mvL k D G T ++ (D k, G k / 2, T k) :: mvL r (fun j => D (k + (j + 1))) (fun j => G (k + (j + 1))) (fun j => T (k + (j + 1))) := by
    rw [mvL_split (show k ≤ k + (r + 1) by omega), Nat.add_sub_cancel_left, mvL_head]
    have a1 : putA G k (G k / 2) (k + 0) = G k / 2 := by simp [putA]
    rw [a1]
    rw [mvL_congr (n := k) (D' := D) (G' := G) (T' := T) (fun j hj => ⟨rfl, by unfold putA; rw [if_neg (by omega)], rfl⟩)]
    rw [mvL_congr (n := r) (D' := fun j => D (k + (j + 1))) (G' := fun j => G (k + (j + 1))) (T' := fun j => T (k + (j + 1))) (fun j hj => ⟨rfl, by unfold putA; rw [if_neg (by omega)], rfl⟩)]
    rfl
  rw [e1, e2]
  refine years_rel (R := LeB) (Y0 := Y0) (Ex := Ex) (u := u) (Ca := Ca) ⟨Int.le_refl _, Int.le_refl _, Int.le_refl _⟩ (fun b b' d hb => ⟨leB_step hb _ _ (.inl rfl), leB_step hb _ _ (.inl rfl)⟩) (fun b b' a c hb => ?_) i
  rw [List.filter_append, List.filter_append, List.map_append, List.map_append, applyE_app, applyE_app]
  have h1 := leB_apply (u := u) (c := Ca) (((mvL k D G T).filter (inY a c)).map mvE) hb
  by_cases hp : inY a c (D k, G k, T k) = true
  · rw [List.filter_cons_of_pos (by exact hp), List.filter_cons_of_pos hp]
    exact leB_apply _ (leB_step h1 _ _ (.inr ⟨D k, G k / 2, G k, T k, rfl, rfl, by omega⟩))
  · rw [List.filter_cons_of_neg (by exact hp), List.filter_cons_of_neg hp]
    exact leB_apply _ h1
/-- The cells of what is joined. -/
theorem j_cells {n k : Nat} {D G T : Nat → Int} (hk : k < n) : mvC (n + 1) (jD D k) (jG G k) (jT T k) = (mvC k D G T ++ [.int .i64 (D k), .int .i64 (G k / 2), .int .i64 0, .int .i64 (D k), .int .i64 (G k - G k / 2), .int .i64 (T k)]) ++ mvC (n - (k + 1)) (fun j => D (k + 1 + j)) (fun j => G (k + 1 + j)) (fun j => T (k + 1 + j)) := by
  rw [mvC_split (show k + 2 ≤ n + 1 by omega), mvC_succ, mvC_succ]
  have a0 : jD D k k = D k := jD0 D k
  have a1 : jG G k k = G k / 2 := jG0 G k
  have a2 : jT T k k = 0 := jT0 T k
  have b0 : jD D k (k + 1) = D k := jD1 D k
  have b1 : jG G k (k + 1) = G k - G k / 2 := jG1 G k
  have b2 : jT T k (k + 1) = T k := jT1 T k
  rw [a0, a1, a2, b0, b1, b2]
  rw [mvC_congr (n := k) (D' := D) (G' := G) (T' := T) (fun j hj => by
    unfold jD jG jT
    refine ⟨?_, ?_, ?_⟩ <;> rw [if_pos (by omega)])]
  rw [show n + 1 - (k + 2) = n - (k + 1) by omega]
  rw [mvC_congr (n := n - (k + 1)) (D' := fun j => D (k + 1 + j)) (G' := fun j => G (k + 1 + j)) (T' := fun j => T (k + 1 + j)) (fun j hj => by
    unfold jD jG jT
    have e : k + 2 + j - 1 = k + 1 + j := by omega
    refine ⟨?_, ?_, ?_⟩
    · rw [if_neg (by omega), e]
    · rw [if_neg (by omega), if_neg (by omega), if_neg (by omega), e]
    · rw [if_neg (by omega), if_neg (by omega), e])]
  simp only [List.append_assoc, List.cons_append, List.nil_append]

end Go.Proofs.YtpejdbnphjheeaaDoor
