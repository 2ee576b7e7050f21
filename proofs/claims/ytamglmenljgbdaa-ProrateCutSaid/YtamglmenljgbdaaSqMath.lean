/-
  What is proved: plain facts on lists of spans of days (as pairs of integers): when two that rise and never touch have the same days they are one list; what joining a span behind the others leaves; the walk over sorted ends. Conditions: none.
-/
namespace Go.Proofs.Ytamglmenljgbdaa.Sp

abbrev Sp := Int × Int
/-- A day lies in one of the spans. -/
def Mem (L : List Sp) (d : Int) : Prop := ∃ s ∈ L, s.1 ≤ d ∧ d < s.2
/-- The spans rise, none is empty, none meets or touches another one. -/
def Canon (L : List Sp) : Prop := L.Pairwise (fun s t => s.2 < t.1) ∧ ∀ s ∈ L, s.1 < s.2
theorem Mem_nil (d : Int) : ¬ Mem [] d := by rintro ⟨s, h, _⟩; cases h
theorem Mem_cons (s : Sp) (L : List Sp) (d : Int) : Mem (s :: L) d ↔ (s.1 ≤ d ∧ d < s.2) ∨ Mem L d := by
  unfold Mem; simp
theorem Mem_app (K L : List Sp) (d : Int) : Mem (K ++ L) d ↔ Mem K d ∨ Mem L d := by
  unfold Mem
  constructor
  · rintro ⟨s, h, hd⟩
    rcases List.mem_append.1 h with h | h
    · exact .inl ⟨s, h, hd⟩
    · exact .inr ⟨s, h, hd⟩
  · rintro (⟨s, h, hd⟩ | ⟨s, h, hd⟩)
    · exact ⟨s, List.mem_append_left _ h, hd⟩
    · exact ⟨s, List.mem_append_right _ h, hd⟩
theorem Mem_one (s : Sp) (d : Int) : Mem [s] d ↔ s.1 ≤ d ∧ d < s.2 := by unfold Mem; simp
theorem Canon.nil : Canon [] := ⟨List.Pairwise.nil, fun s h => by cases h⟩
theorem Canon.cons {s : Sp} {L : List Sp} (h : Canon (s :: L)) : s.1 < s.2 ∧ (∀ t ∈ L, s.2 < t.1) ∧ Canon L := by
  obtain ⟨h1, h2⟩ := h
  cases h1 with
  | cons a b => exact ⟨h2 s (List.mem_cons_self ..), a, b, fun t ht => h2 t (List.mem_cons_of_mem _ ht)⟩

/-- Sets of the same days have the same spans. -/
theorem canon_one : ∀ {L M : List Sp}, Canon L → Canon M → (∀ d, Mem L d ↔ Mem M d) → L = M
  | [], [], _, _, _ => rfl
  | [], t :: q, _, hM, h => by
    obtain ⟨h1, -, -⟩ := hM.cons
    exact absurd ((h t.1).2 ((Mem_cons ..).2 (.inl ⟨by omega, h1⟩))) (Mem_nil _)
  | s :: r, [], hL, _, h => by
    obtain ⟨h1, -, -⟩ := hL.cons
    exact absurd ((h s.1).1 ((Mem_cons ..).2 (.inl ⟨by omega, h1⟩))) (Mem_nil _)
  | s :: r, t :: q, hL, hM, h => by
    obtain ⟨s1, s2, s3⟩ := hL.cons
    obtain ⟨t1, t2, t3⟩ := hM.cons
    have lo : ∀ d, Mem (t :: q) d → t.1 ≤ d := fun d hd => by
      rcases (Mem_cons ..).1 hd with hd | ⟨u, hu, hd⟩
      · exact hd.1
      · have := t2 u hu; omega
    have lo' : ∀ d, Mem (s :: r) d → s.1 ≤ d := fun d hd => by
      rcases (Mem_cons ..).1 hd with hd | ⟨u, hu, hd⟩
      · exact hd.1
      · have := s2 u hu; omega
    have a1 := lo s.1 ((h s.1).1 ((Mem_cons ..).2 (.inl ⟨by omega, s1⟩)))
    have a2 := lo' t.1 ((h t.1).2 ((Mem_cons ..).2 (.inl ⟨by omega, t1⟩)))
    have e1 : s.1 = t.1 := by omega
    have b1 : ¬ s.2 < t.2 := fun hlt => by
      have hm := (h s.2).2 ((Mem_cons ..).2 (.inl ⟨by omega, hlt⟩))
      rcases (Mem_cons ..).1 hm with hd | ⟨u, hu, hd⟩
      · omega
      · have := s2 u hu; omega
    have b2 : ¬ t.2 < s.2 := fun hlt => by
      have hm := (h t.2).1 ((Mem_cons ..).2 (.inl ⟨by omega, hlt⟩))
      rcases (Mem_cons ..).1 hm with hd | ⟨u, hu, hd⟩
      · omega
      · have := t2 u hu; omega
    have e2 : s.2 = t.2 := by omega
    have e : s = t := Prod.ext e1 e2
    subst e
    refine congrArg _ (canon_one s3 t3 (fun d => ⟨fun hd => ?_, fun hd => ?_⟩))
    · rcases (Mem_cons ..).1 ((h d).1 ((Mem_cons ..).2 (.inr hd))) with h3 | h3
      · obtain ⟨u, hu, hd⟩ := hd; have := s2 u hu; omega
      · exact h3
    · rcases (Mem_cons ..).1 ((h d).2 ((Mem_cons ..).2 (.inr hd))) with h3 | h3
      · obtain ⟨u, hu, hd⟩ := hd; have := t2 u hu; omega
      · exact h3

/-- A span behind the others: joined to the last one where it touches it. -/
def joinL (K : List Sp) (s : Sp) : List Sp :=
  if s.2 ≤ s.1 then K else
  match K.getLast? with
  | none => [s]
  | some l => if l.2 = s.1 then K.dropLast ++ [(l.1, s.2)] else K ++ [s]
theorem joinL_no {K : List Sp} {s : Sp} (h : s.2 ≤ s.1) : joinL K s = K := by unfold joinL; rw [if_pos h]
theorem joinL_nil {s : Sp} (h : ¬ s.2 ≤ s.1) : joinL [] s = [s] := by unfold joinL; rw [if_neg h]; rfl
theorem joinL_on {K : List Sp} {l s : Sp} (h : ¬ s.2 ≤ s.1) (e : l.2 = s.1) : joinL (K ++ [l]) s = K ++ [(l.1, s.2)] := by
  unfold joinL; rw [if_neg h]; simp [e]
theorem joinL_off {K : List Sp} {l s : Sp} (h : ¬ s.2 ≤ s.1) (e : ¬ l.2 = s.1) : joinL (K ++ [l]) s = K ++ [l] ++ [s] := by
  unfold joinL; rw [if_neg h]; simp [e]
theorem snoc_of : ∀ (K : List Sp), K = [] ∨ ∃ K' l, K = K' ++ [l]
  | [] => .inl rfl
  | s :: r => .inr (by
    rcases snoc_of r with h | ⟨K', l, h⟩
    · exact ⟨[], s, by simp [h]⟩
    · exact ⟨s :: K', l, by simp [h]⟩)
theorem joinL_len (K : List Sp) (s : Sp) : (joinL K s).length ≤ K.length + 1 := by
  by_cases h : s.2 ≤ s.1
  · rw [joinL_no h]; omega
  · rcases snoc_of K with rfl | ⟨K', l, rfl⟩
    · rw [joinL_nil h]; simp
    · by_cases e : l.2 = s.1
      · rw [joinL_on h e]; simp
      · rw [joinL_off h e]; simp
theorem Canon.snoc {K : List Sp} {l : Sp} : Canon (K ++ [l]) ↔ Canon K ∧ (∀ t ∈ K, t.2 < l.1) ∧ l.1 < l.2 := by
  unfold Canon
  rw [List.pairwise_append]
  simp only [List.mem_append, List.mem_singleton, List.pairwise_cons, List.Pairwise.nil]
  constructor
  · rintro ⟨⟨h1, h2, h3⟩, h4⟩
    exact ⟨⟨h1, fun s hs => h4 s (.inl hs)⟩, fun t ht => h3 t ht l rfl, h4 l (.inr rfl)⟩
  · rintro ⟨⟨h1, h2⟩, h3, h4⟩
    refine ⟨⟨h1, ⟨(fun _ h => by cases h), trivial⟩, fun t ht b hb => by rw [hb]; exact h3 t ht⟩, ?_⟩
    rintro s (hs | rfl)
    · exact h2 s hs
    · exact h4
theorem joinL_canon {K : List Sp} {s : Sp} (hK : Canon K) (hs : s.1 ≤ s.2) (hl : ∀ t ∈ K, t.2 ≤ s.1) :
    Canon (joinL K s) ∧ (∀ d, Mem (joinL K s) d ↔ Mem K d ∨ (s.1 ≤ d ∧ d < s.2)) ∧ (∀ t ∈ joinL K s, t.2 ≤ s.2) := by
  by_cases h : s.2 ≤ s.1
  · rw [joinL_no h]
    refine ⟨hK, fun d => ⟨fun hd => .inl hd, fun hd => ?_⟩, fun t ht => by have := hl t ht; omega⟩
    rcases hd with hd | hd
    · exact hd
    · omega
  · rcases snoc_of K with rfl | ⟨K', l, rfl⟩
    · rw [joinL_nil h]
      refine ⟨⟨by simp, fun t ht => by simp at ht; subst ht; omega⟩, fun d => ?_, fun t ht => by simp at ht; subst ht; omega⟩
      rw [Mem_one]
      constructor
      · exact fun h => .inr h
      · rintro (h | h)
        · exact absurd h (Mem_nil _)
        · exact h
    · obtain ⟨c1, c2, c3⟩ := Canon.snoc.1 hK
      by_cases e : l.2 = s.1
      · rw [joinL_on h e]
        refine ⟨Canon.snoc.2 ⟨c1, c2, by show l.1 < s.2; omega⟩, fun d => ?_, fun t ht => ?_⟩
        · rw [Mem_app, Mem_app, Mem_one, Mem_one]
          show Mem K' d ∨ (l.1 ≤ d ∧ d < s.2) ↔ _
          constructor
          · rintro (h | h)
            · exact .inl (.inl h)
            · by_cases hd : d < l.2
              · exact .inl (.inr ⟨h.1, hd⟩)
              · exact .inr ⟨by omega, h.2⟩
          · rintro ((h | h) | h)
            · exact .inl h
            · exact .inr ⟨h.1, by omega⟩
            · exact .inr ⟨by omega, h.2⟩
        · rcases List.mem_append.1 ht with ht | ht
          · have := hl t (List.mem_append_left _ ht); omega
          · simp at ht; subst ht; exact Int.le_refl _
      · rw [joinL_off h e]
        have hl1 := hl l (by simp)
        refine ⟨Canon.snoc.2 ⟨hK, fun t ht => ?_, by omega⟩, fun d => ?_, fun t ht => ?_⟩
        · rcases List.mem_append.1 ht with ht' | ht'
          · have := c2 t ht'; omega
          · simp at ht'; subst ht'; omega
        · rw [Mem_app (K' ++ [l]), Mem_one]
        · rcases List.mem_append.1 ht with ht' | ht'
          · have := hl t ht'; omega
          · simp at ht'; subst ht'; exact Int.le_refl _
theorem joinL_all {p : Int → Prop} {K : List Sp} {s : Sp} (hK : ∀ t ∈ K, p t.1 ∧ p t.2) (h1 : p s.1) (h2 : p s.2) : ∀ t ∈ joinL K s, p t.1 ∧ p t.2 := by
  by_cases h : s.2 ≤ s.1
  · rw [joinL_no h]; exact hK
  · rcases snoc_of K with rfl | ⟨K', l, rfl⟩
    · rw [joinL_nil h]; intro t ht; simp at ht; subst ht; exact ⟨h1, h2⟩
    · by_cases e : l.2 = s.1
      · rw [joinL_on h e]
        intro t ht
        rcases List.mem_append.1 ht with ht | ht
        · exact hK t (List.mem_append_left _ ht)
        · simp at ht; subst ht; exact ⟨(hK l (by simp)).1, h2⟩
      · rw [joinL_off h e]
        intro t ht
        rcases List.mem_append.1 ht with ht | ht
        · exact hK t ht
        · simp at ht; subst ht; exact ⟨h1, h2⟩

/-- An end: its day, by how much it turns the left count, and the right one. -/
abbrev Ev := Int × Int × Int
def sumL (E : Nat → Ev) : Nat → Int
  | 0 => 0
  | k + 1 => sumL E k + (E k).2.1
def sumR (E : Nat → Ev) : Nat → Int
  | 0 => 0
  | k + 1 => sumR E k + (E k).2.2
/-- Does the walk keep the days behind end k? -/
def keepAt (kp : Bool → Bool → Bool) (E : Nat → Ev) (k : Nat) : Bool := kp (decide (0 < sumL E (k + 1))) (decide (0 < sumR E (k + 1)))
/-- What the walk has gathered behind k of n ends. -/
def keptL (kp : Bool → Bool → Bool) (E : Nat → Ev) (n : Nat) : Nat → List Sp
  | 0 => []
  | k + 1 => if k + 1 < n ∧ keepAt kp E k = true then joinL (keptL kp E n k) ((E k).1, (E (k + 1)).1) else keptL kp E n k
theorem keptL_len (kp : Bool → Bool → Bool) (E : Nat → Ev) (n : Nat) : ∀ k, (keptL kp E n k).length ≤ k
  | 0 => Nat.le_refl _
  | k + 1 => by
    have h := keptL_len kp E n k
    have h2 := joinL_len (keptL kp E n k) ((E k).1, (E (k + 1)).1)
    unfold keptL
    split <;> omega
theorem keptL_all {p : Int → Prop} {kp : Bool → Bool → Bool} {E : Nat → Ev} {n : Nat} (h : ∀ k, k < n → p (E k).1) : ∀ k, k ≤ n → ∀ t ∈ keptL kp E n k, p t.1 ∧ p t.2
  | 0, _ => fun t ht => by cases ht
  | k + 1, hk => by
    have h1 := keptL_all (kp := kp) h k (by omega)
    unfold keptL
    split
    · rename_i hc
      exact joinL_all h1 (h k (by omega)) (h (k + 1) (by omega))
    · exact h1
theorem keptL_inv {kp : Bool → Bool → Bool} {E : Nat → Ev} {n : Nat} (hs : ∀ i, i + 1 < n → (E i).1 ≤ (E (i + 1)).1) : ∀ k, k ≤ n →
    Canon (keptL kp E n k) ∧ (∀ d, Mem (keptL kp E n k) d ↔ ∃ i, i < k ∧ i + 1 < n ∧ (E i).1 ≤ d ∧ d < (E (i + 1)).1 ∧ keepAt kp E i = true) ∧ (k < n → ∀ t ∈ keptL kp E n k, t.2 ≤ (E k).1)
  | 0, _ => ⟨Canon.nil, fun d => ⟨fun h => absurd h (Mem_nil _), fun ⟨i, hi, _⟩ => by omega⟩, fun _ t ht => by cases ht⟩
  | k + 1, hk => by
    obtain ⟨h1, h2, h3⟩ := keptL_inv (kp := kp) hs k (by omega)
    unfold keptL
    by_cases hc : k + 1 < n ∧ keepAt kp E k = true
    · rw [if_pos hc]
      obtain ⟨j1, j2, j3⟩ := joinL_canon (s := ((E k).1, (E (k + 1)).1)) h1 (hs k hc.1) (h3 (by omega))
      refine ⟨j1, fun d => ?_, fun _ => j3⟩
      rw [j2, h2]
      constructor
      · rintro (⟨i, hi, h⟩ | h)
        · exact ⟨i, by omega, h⟩
        · exact ⟨k, by omega, hc.1, h.1, h.2, hc.2⟩
      · rintro ⟨i, hi, h⟩
        by_cases e : i = k
        · subst e; exact .inr ⟨h.2.1, h.2.2.1⟩
        · exact .inl ⟨i, by omega, h⟩
    · rw [if_neg hc]
      refine ⟨h1, fun d => ?_, fun hn t ht => Int.le_trans (h3 (by omega) t ht) (hs k hn)⟩
      rw [h2]
      constructor
      · rintro ⟨i, hi, h⟩; exact ⟨i, by omega, h⟩
      · rintro ⟨i, hi, h⟩
        by_cases e : i = k
        · subst e; exact absurd ⟨h.1, h.2.2.2⟩ hc
        · exact ⟨i, by omega, h⟩

/-- How many ends up to a day turn the counts, and by how much. -/
def cntL (L : List Ev) (d : Int) : Int := (L.map (fun e => if e.1 ≤ d then e.2.1 else 0)).sum
def cntR (L : List Ev) (d : Int) : Int := (L.map (fun e => if e.1 ≤ d then e.2.2 else 0)).sum
theorem sum_app (l m : List Int) : (l ++ m).sum = l.sum + m.sum := by
  induction l with
  | nil => simp
  | cons a r ih => simp only [List.cons_append, List.sum_cons, ih]; omega
theorem sum_perm {l m : List Int} (h : l.Perm m) : l.sum = m.sum := by
  induction h with
  | nil => rfl
  | cons a _ ih => simp only [List.sum_cons, ih]
  | swap a b l => simp only [List.sum_cons]; omega
  | trans _ _ h1 h2 => exact h1.trans h2
theorem cntL_perm {L M : List Ev} (h : L.Perm M) (d : Int) : cntL L d = cntL M d := sum_perm (h.map _)
theorem cntR_perm {L M : List Ev} (h : L.Perm M) (d : Int) : cntR L d = cntR M d := sum_perm (h.map _)
theorem cntL_app (L M : List Ev) (d : Int) : cntL (L ++ M) d = cntL L d + cntL M d := by unfold cntL; rw [List.map_append, sum_app]
theorem cntR_app (L M : List Ev) (d : Int) : cntR (L ++ M) d = cntR L d + cntR M d := by unfold cntR; rw [List.map_append, sum_app]

/-- The first n of a row, as a list. -/
def evs (E : Nat → Ev) (n : Nat) : List Ev := (List.range n).map E
theorem evs_succ (E : Nat → Ev) (n : Nat) : evs E (n + 1) = evs E n ++ [E n] := by simp [evs, List.range_succ]
theorem cnt_upto {E : Nat → Ev} {d : Int} : ∀ {n k : Nat}, k ≤ n → (∀ i, i < k → (E i).1 ≤ d) → (∀ i, k ≤ i → i < n → d < (E i).1) → cntL (evs E n) d = sumL E k ∧ cntR (evs E n) d = sumR E k
  | 0, k, hk, _, _ => by
    obtain rfl : k = 0 := by omega
    exact ⟨rfl, rfl⟩
  | n + 1, k, hk, h1, h2 => by
    rw [evs_succ, cntL_app, cntR_app]
    by_cases e : k = n + 1
    · subst e
      obtain ⟨a, b⟩ := cnt_upto (E := E) (d := d) (n := n) (k := n) (Nat.le_refl _) (fun i hi => h1 i (by omega)) (fun i a b => by omega)
      have := h1 n (by omega)
      rw [a, b]
      simp [cntL, cntR, sumL, sumR, this]
    · obtain ⟨a, b⟩ := cnt_upto (E := E) (d := d) (n := n) (k := k) (by omega) h1 (fun i a b => h2 i a (by omega))
      have := h2 n (by omega) (by omega)
      rw [a, b]
      simp [cntL, cntR, show ¬ (E n).1 ≤ d by omega]

/-- The ends of spans that aren't empty, as those of a left set, or of a right one. -/
def endsL : List Sp → List Ev
  | [] => []
  | s :: r => (if s.2 ≤ s.1 then [] else [(s.1, 1, 0), (s.2, -1, 0)]) ++ endsL r
def endsR : List Sp → List Ev
  | [] => []
  | s :: r => (if s.2 ≤ s.1 then [] else [(s.1, 0, 1), (s.2, 0, -1)]) ++ endsR r
theorem endsR_of : ∀ L, endsR L = (endsL L).map (fun e => (e.1, 0, e.2.1))
  | [] => rfl
  | s :: r => by
    unfold endsR endsL
    rw [List.map_append, endsR_of r]
    split <;> rfl
theorem endsL_app : ∀ (L M : List Sp), endsL (L ++ M) = endsL L ++ endsL M
  | [], M => rfl
  | s :: r, M => by rw [List.cons_append, endsL, endsL, endsL_app r M, List.append_assoc]
theorem endsL_len : ∀ L, (endsL L).length ≤ 2 * L.length
  | [] => Nat.le_refl _
  | s :: r => by
    have := endsL_len r
    unfold endsL
    split <;> simp <;> omega
/-- How many of the spans have a day. -/
def many : List Sp → Int → Int
  | [], _ => 0
  | s :: r, d => (if s.1 ≤ d ∧ d < s.2 then 1 else 0) + many r d
theorem many_nn : ∀ L d, 0 ≤ many L d
  | [], d => Int.le_refl _
  | s :: r, d => by have := many_nn r d; unfold many; split <;> omega
theorem many_pos : ∀ L d, 0 < many L d ↔ Mem L d
  | [], d => ⟨fun h => by unfold many at h; omega, fun h => absurd h (Mem_nil _)⟩
  | s :: r, d => by
    have h0 := many_nn r d
    have h1 := many_pos r d
    rw [Mem_cons, ← h1]
    show 0 < (if s.1 ≤ d ∧ d < s.2 then 1 else 0) + many r d ↔ _
    generalize many r d = m at h0 h1 ⊢
    split
    · rename_i h; exact ⟨fun _ => .inl h, fun _ => by omega⟩
    · rename_i h; exact ⟨fun h2 => .inr (by omega), fun h2 => by rcases h2 with h2 | h2; exact absurd h2 h; omega⟩
theorem cnt_endsL : ∀ L d, cntL (endsL L) d = many L d ∧ cntR (endsL L) d = 0
  | [], d => ⟨rfl, rfl⟩
  | s :: r, d => by
    obtain ⟨a, b⟩ := cnt_endsL r d
    unfold endsL many
    rw [cntL_app, cntR_app, a, b]
    by_cases h : s.2 ≤ s.1
    · rw [if_pos h, if_neg (by omega)]; exact ⟨rfl, rfl⟩
    · rw [if_neg h]
      simp only [cntL, cntR, List.map_cons, List.map_nil, List.sum_cons, List.sum_nil]
      refine ⟨?_, by split <;> split <;> rfl⟩
      by_cases h1 : s.1 ≤ d <;> by_cases h2 : s.2 ≤ d
      · rw [if_pos h1, if_pos h2, if_neg (by omega)]; omega
      · rw [if_pos h1, if_neg h2, if_pos ⟨h1, by omega⟩]; omega
      · omega
      · rw [if_neg h1, if_neg h2, if_neg (by omega)]; omega
theorem cnt_endsR : ∀ L d, cntR (endsR L) d = many L d ∧ cntL (endsR L) d = 0
  | [], d => ⟨rfl, rfl⟩
  | s :: r, d => by
    obtain ⟨a, b⟩ := cnt_endsR r d
    unfold endsR many
    rw [cntL_app, cntR_app, a, b]
    by_cases h : s.2 ≤ s.1
    · rw [if_pos h, if_neg (by omega)]; exact ⟨rfl, rfl⟩
    · rw [if_neg h]
      simp only [cntL, cntR, List.map_cons, List.map_nil, List.sum_cons, List.sum_nil]
      refine ⟨?_, by split <;> split <;> rfl⟩
      by_cases h1 : s.1 ≤ d <;> by_cases h2 : s.2 ≤ d
      · rw [if_pos h1, if_pos h2, if_neg (by omega)]; omega
      · rw [if_pos h1, if_neg h2, if_pos ⟨h1, by omega⟩]; omega
      · omega
      · rw [if_neg h1, if_neg h2, if_neg (by omega)]; omega
theorem endsL_mem : ∀ {L : List Sp} {e : Ev}, e ∈ endsL L → ∃ s ∈ L, e.1 = s.1 ∨ e.1 = s.2
  | [], e, h => by cases h
  | s :: r, e, h => by
    unfold endsL at h
    rcases List.mem_append.1 h with h | h
    · split at h
      · cases h
      · simp at h
        rcases h with rfl | rfl
        · exact ⟨s, by simp, .inl rfl⟩
        · exact ⟨s, by simp, .inr rfl⟩
    · obtain ⟨t, ht, h⟩ := endsL_mem h
      exact ⟨t, List.mem_cons_of_mem _ ht, h⟩
theorem endsL_has : ∀ {L : List Sp} {s : Sp}, s ∈ L → s.1 < s.2 → (s.1, 1, 0) ∈ endsL L ∧ (s.2, -1, 0) ∈ endsL L
  | t :: r, s, h, hs => by
    unfold endsL
    rcases List.mem_cons.1 h with rfl | h
    · rw [if_neg (by omega)]; simp
    · obtain ⟨a, b⟩ := endsL_has h hs
      exact ⟨List.mem_append_right _ a, List.mem_append_right _ b⟩
theorem endsR_has {L : List Sp} {s : Sp} (h : s ∈ L) (hs : s.1 < s.2) : (s.1, 0, 1) ∈ endsR L ∧ (s.2, 0, -1) ∈ endsR L := by
  obtain ⟨a, b⟩ := endsL_has h hs
  rw [endsR_of]
  exact ⟨List.mem_map.2 ⟨_, a, rfl⟩, List.mem_map.2 ⟨_, b, rfl⟩⟩

/-- The place in a rising row at which a day lies. -/
theorem place_of {E : Nat → Ev} {d : Int} : ∀ {n : Nat}, (∀ i, i + 1 < n → (E i).1 ≤ (E (i + 1)).1) → (∃ i, i < n ∧ (E i).1 ≤ d) → (∃ j, j < n ∧ d < (E j).1) → ∃ i, i + 1 < n ∧ (E i).1 ≤ d ∧ d < (E (i + 1)).1
  | 0, _, ⟨i, h, _⟩, _ => by omega
  | n + 1, hs, ⟨i, hi, h1⟩, ⟨j, hj, h2⟩ => by
    by_cases hn : (E n).1 ≤ d
    · have hd : ∀ k, k + j ≤ n → (E j).1 ≤ (E (k + j)).1 := fun k => by
        induction k with
        | zero => intro _; rw [Nat.zero_add]; exact Int.le_refl _
        | succ k ih =>
          intro h
          have a := ih (by omega)
          have b := hs (k + j) (by omega)
          rw [show k + 1 + j = k + j + 1 by omega]
          omega
      have := hd (n - j) (by omega)
      rw [show n - j + j = n by omega] at this
      omega
    · by_cases hex : ∃ j, j < n ∧ d < (E j).1
      · have hi' : i < n := by
          by_cases e : i = n
          · subst e; omega
          · omega
        obtain ⟨k, h3, h4⟩ := place_of (fun i h => hs i (by omega)) ⟨i, hi', h1⟩ hex
        exact ⟨k, by omega, h4⟩
      · have hi' : i < n := by
          by_cases e : i = n
          · subst e; omega
          · omega
        refine ⟨n - 1, by omega, ?_, ?_⟩
        · by_cases h : (E (n - 1)).1 ≤ d
          · exact h
          · exact absurd ⟨n - 1, by omega, by omega⟩ hex
        · rw [show n - 1 + 1 = n by omega]; omega
theorem rise_le {E : Nat → Ev} {n : Nat} (hs : ∀ i, i + 1 < n → (E i).1 ≤ (E (i + 1)).1) : ∀ {k i : Nat}, i + k < n → (E i).1 ≤ (E (i + k)).1
  | 0, i, _ => Int.le_refl _
  | k + 1, i, h => by
    have a := rise_le hs (k := k) (i := i) (by omega)
    have b := hs (i + k) (by omega)
    rw [show i + (k + 1) = i + k + 1 by omega]
    omega

/-- The walk over the sorted ends of two lists of spans: its days are those that keep takes. -/
theorem walk_days {kp : Bool → Bool → Bool} {E : Nat → Ev} {n : Nat} {A B : List Sp} (hkp : kp false false = false) (hs : ∀ i, i + 1 < n → (E i).1 ≤ (E (i + 1)).1) (hp : (evs E n).Perm (endsL A ++ endsR B)) :
    Canon (keptL kp E n n) ∧ ∀ d, Mem (keptL kp E n n) d ↔ kp (decide (0 < many A d)) (decide (0 < many B d)) = true := by
  obtain ⟨h1, h2, -⟩ := keptL_inv (kp := kp) hs n (Nat.le_refl _)
  refine ⟨h1, fun d => ?_⟩
  have cl : cntL (evs E n) d = many A d := by rw [cntL_perm hp, cntL_app, (cnt_endsL A d).1, (cnt_endsR B d).2]; omega
  have cr : cntR (evs E n) d = many B d := by rw [cntR_perm hp, cntR_app, (cnt_endsL A d).2, (cnt_endsR B d).1]; omega
  have key : ∀ i, i + 1 < n → (E i).1 ≤ d → d < (E (i + 1)).1 → keepAt kp E i = kp (decide (0 < many A d)) (decide (0 < many B d)) := fun i hi a b => by
    obtain ⟨x, y⟩ := cnt_upto (E := E) (d := d) (n := n) (k := i + 1) (by omega) (fun j hj => by
      have := rise_le hs (k := i - j) (i := j) (by omega)
      rw [show j + (i - j) = i by omega] at this
      omega) (fun j hj hn => by
      have := rise_le hs (k := j - (i + 1)) (i := i + 1) (by omega)
      rw [show i + 1 + (j - (i + 1)) = j by omega] at this
      omega)
    unfold keepAt
    rw [← x, ← y, cl, cr]
  rw [h2]
  constructor
  · rintro ⟨i, -, hn, a, b, hk⟩
    rw [← key i hn a b]; exact hk
  · intro hk
    have hor : 0 < many A d ∨ 0 < many B d := by
      by_cases a : 0 < many A d
      · exact .inl a
      · by_cases b : 0 < many B d
        · exact .inr b
        · simp [a, b, hkp] at hk
    have hin : ∃ s : Sp, s.1 ≤ d ∧ d < s.2 ∧ (∃ i, i < n ∧ (E i).1 = s.1) ∧ (∃ j, j < n ∧ (E j).1 = s.2) := by
      have fnd : ∀ e, e ∈ endsL A ++ endsR B → ∃ i, i < n ∧ (E i).1 = e.1 := fun e he => by
        have := hp.symm.subset he
        unfold evs at this
        obtain ⟨i, hi, hE⟩ := List.mem_map.1 this
        exact ⟨i, by simpa using hi, by rw [hE]⟩
      rcases hor with h | h
      · obtain ⟨s, hsm, hs1, hs2⟩ := (many_pos A d).1 h
        obtain ⟨e1, e2⟩ := endsL_has hsm (by omega)
        exact ⟨s, hs1, hs2, fnd _ (List.mem_append_left _ e1), fnd _ (List.mem_append_left _ e2)⟩
      · obtain ⟨s, hsm, hs1, hs2⟩ := (many_pos B d).1 h
        obtain ⟨e1, e2⟩ := endsR_has hsm (by omega)
        exact ⟨s, hs1, hs2, fnd _ (List.mem_append_right _ e1), fnd _ (List.mem_append_right _ e2)⟩
    obtain ⟨s, a, b, ⟨i, hi, ei⟩, ⟨j, hj, ej⟩⟩ := hin
    obtain ⟨k, hk1, hk2, hk3⟩ := place_of (d := d) hs ⟨i, hi, by omega⟩ ⟨j, hj, by omega⟩
    exact ⟨k, by omega, hk1, hk2, hk3, by rw [key k hk1 hk2 hk3]; exact hk⟩

end Go.Proofs.Ytamglmenljgbdaa.Sp
