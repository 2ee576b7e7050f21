/-
  What is proved: texts of other seats, joined for this one: what each theorem says. Conditions: as each says.
-/
import Derived.Test.YtogdiiengbmiiaaDoorRows
import Derived.WalkKit
import Derived.WalkSpells
import Derived.WalkLawsBesides
import Derived.Lib.Hide
import Derived.Below
import Derived.Laws.OwnMore
import Derived.Laws.AppendOwn
import Derived.Laws.AppendOwnNone
import Derived.Laws.MakeOwn
import Derived.Deep.AppendSrc
import Derived.Deep.AppendLies
import Derived.Deep.Draws
import Derived.Lib.AppendZeros
import Derived.Maps.AppendAt
import Derived.Deep.QuietTactic
import Derived.BigQuiet
import Derived.BigRegion
namespace Go.Proofs.YtogdiiengbmiiaaDoor.Sp

abbrev Sp := Int × Int
/-- A day lies in one of the spans. -/
def Mem (L : List Sp) (d : Int) : Prop := ∃ s ∈ L, s.1 ≤ d ∧ d < s.2
/-- The spans rise, none is empty, none meets or touches another one. -/
def Canon (L : List Sp) : Prop := L.Pairwise (fun s t => s.2 < t.1) ∧ ∀ s ∈ L, s.1 < s.2
theorem Mem_nil (d : Int) : ¬ Mem [] d := by rintro ⟨s, h, _⟩; cases h
theorem Mem_cons (s : Sp) (L : List Sp) (d : Int) : Mem (s :: L) d ↔ (s.1 ≤ d ∧ d < s.2) ∨ Mem L d := by
  unfold Mem; simp
theorem Mem_app (K L : List Sp) (d : Int) : Mem (K ++ L) d ↔ Mem K d ∨ Mem L d := by
  unfold Mem
  constructor
  · rintro ⟨s, h, hd⟩
    rcases List.mem_append.1 h with h | h
    · exact .inl ⟨s, h, hd⟩
    · exact .inr ⟨s, h, hd⟩
  · rintro (⟨s, h, hd⟩ | ⟨s, h, hd⟩)
    · exact ⟨s, List.mem_append_left _ h, hd⟩
    · exact ⟨s, List.mem_append_right _ h, hd⟩
theorem Mem_one (s : Sp) (d : Int) : Mem [s] d ↔ s.1 ≤ d ∧ d < s.2 := by unfold Mem; simp
theorem Canon.nil : Canon [] := ⟨List.Pairwise.nil, fun s h => by cases h⟩
theorem Canon.cons {s : Sp} {L : List Sp} (h : Canon (s :: L)) : s.1 < s.2 ∧ (∀ t ∈ L, s.2 < t.1) ∧ Canon L := by
  obtain ⟨h1, h2⟩ := h
  cases h1 with
  | cons a b => exact ⟨h2 s (List.mem_cons_self ..), a, b, fun t ht => h2 t (List.mem_cons_of_mem _ ht)⟩

/-- Sets of the same days have the same spans. -/
theorem canon_one : ∀ {L M : List Sp}, Canon L → Canon M → (∀ d, Mem L d ↔ Mem M d) → L = M
  | [], [], _, _, _ => rfl
  | [], t :: q, _, hM, h => by
    obtain ⟨h1, -, -⟩ := hM.cons
    exact absurd ((h t.1).2 ((Mem_cons ..).2 (.inl ⟨by omega, h1⟩))) (Mem_nil _)
  | s :: r, [], hL, _, h => by
    obtain ⟨h1, -, -⟩ := hL.cons
    exact absurd ((h s.1).1 ((Mem_cons ..).2 (.inl ⟨by omega, h1⟩))) (Mem_nil _)
  | s :: r, t :: q, hL, hM, h => by
    obtain ⟨s1, s2, s3⟩ := hL.cons
    obtain ⟨t1, t2, t3⟩ := hM.cons
    have lo : ∀ d, Mem (t :: q) d → t.1 ≤ d := fun d hd => by
      rcases (Mem_cons ..).1 hd with hd | ⟨u, hu, hd⟩
      · exact hd.1
      · have := t2 u hu; omega
    have lo' : ∀ d, Mem (s :: r) d → s.1 ≤ d := fun d hd => by
      rcases (Mem_cons ..).1 hd with hd | ⟨u, hu, hd⟩
      · exact hd.1
      · have := s2 u hu; omega
    have a1 := lo s.1 ((h s.1).1 ((Mem_cons ..).2 (.inl ⟨by omega, s1⟩)))
    have a2 := lo' t.1 ((h t.1).2 ((Mem_cons ..).2 (.inl ⟨by omega, t1⟩)))
    have e1 : s.1 = t.1 := by omega
    have b1 : ¬ s.2 < t.2 := fun hlt => by
      have hm := (h s.2).2 ((Mem_cons ..).2 (.inl ⟨by omega, hlt⟩))
      rcases (Mem_cons ..).1 hm with hd | ⟨u, hu, hd⟩
      · omega
      · have := s2 u hu; omega
    have b2 : ¬ t.2 < s.2 := fun hlt => by
      have hm := (h t.2).1 ((Mem_cons ..).2 (.inl ⟨by omega, hlt⟩))
      rcases (Mem_cons ..).1 hm with hd | ⟨u, hu, hd⟩
      · omega
      · have := t2 u hu; omega
    have e2 : s.2 = t.2 := by omega
    have e : s = t := Prod.ext e1 e2
    subst e
    refine congrArg _ (canon_one s3 t3 (fun d => ⟨fun hd => ?_, fun hd => ?_⟩))
    · rcases (Mem_cons ..).1 ((h d).1 ((Mem_cons ..).2 (.inr hd))) with h3 | h3
      · obtain ⟨u, hu, hd⟩ := hd; have := s2 u hu; omega
      · exact h3
    · rcases (Mem_cons ..).1 ((h d).2 ((Mem_cons ..).2 (.inr hd))) with h3 | h3
      · obtain ⟨u, hu, hd⟩ := hd; have := t2 u hu; omega
      · exact h3

/-- A span behind the others: joined to the last one where it touches it. -/
def joinL (K : List Sp) (s : Sp) : List Sp :=
  if s.2 ≤ s.1 then K else
  match K.getLast? with
  | none => [s]
  | some l => if l.2 = s.1 then K.dropLast ++ [(l.1, s.2)] else K ++ [s]
theorem joinL_no {K : List Sp} {s : Sp} (h : s.2 ≤ s.1) : joinL K s = K := by unfold joinL; rw [if_pos h]
theorem joinL_nil {s : Sp} (h : ¬ s.2 ≤ s.1) : joinL [] s = [s] := by unfold joinL; rw [if_neg h]; rfl
theorem joinL_on {K : List Sp} {l s : Sp} (h : ¬ s.2 ≤ s.1) (e : l.2 = s.1) : joinL (K ++ [l]) s = K ++ [(l.1, s.2)] := by
  unfold joinL; rw [if_neg h]; simp [e]
theorem joinL_off {K : List Sp} {l s : Sp} (h : ¬ s.2 ≤ s.1) (e : ¬ l.2 = s.1) : joinL (K ++ [l]) s = K ++ [l] ++ [s] := by
  unfold joinL; rw [if_neg h]; simp [e]
theorem snoc_of : ∀ (K : List Sp), K = [] ∨ ∃ K' l, K = K' ++ [l]
  | [] => .inl rfl
  | s :: r => .inr (by
    rcases snoc_of r with h | ⟨K', l, h⟩
    · exact ⟨[], s, by simp [h]⟩
    · exact ⟨s :: K', l, by simp [h]⟩)
theorem joinL_len (K : List Sp) (s : Sp) : (joinL K s).length ≤ K.length + 1 := by
  by_cases h : s.2 ≤ s.1
  · rw [joinL_no h]; omega
  · rcases snoc_of K with rfl | ⟨K', l, rfl⟩
    · rw [joinL_nil h]; simp
    · by_cases e : l.2 = s.1
      · rw [joinL_on h e]; simp
      · rw [joinL_off h e]; simp
theorem Canon.snoc {K : List Sp} {l : Sp} : Canon (K ++ [l]) ↔ Canon K ∧ (∀ t ∈ K, t.2 < l.1) ∧ l.1 < l.2 := by
  unfold Canon
  rw [List.pairwise_append]
  simp only [List.mem_append, List.mem_singleton, List.pairwise_cons, List.Pairwise.nil]
  constructor
  · rintro ⟨⟨h1, h2, h3⟩, h4⟩
    exact ⟨⟨h1, fun s hs => h4 s (.inl hs)⟩, fun t ht => h3 t ht l rfl, h4 l (.inr rfl)⟩
  · rintro ⟨⟨h1, h2⟩, h3, h4⟩
    refine ⟨⟨h1, ⟨(fun _ h => by cases h), trivial⟩, fun t ht b hb => by rw [hb]; exact h3 t ht⟩, ?_⟩
    rintro s (hs | rfl)
    · exact h2 s hs
    · exact h4
theorem joinL_canon {K : List Sp} {s : Sp} (hK : Canon K) (hs : s.1 ≤ s.2) (hl : ∀ t ∈ K, t.2 ≤ s.1) :
    Canon (joinL K s) ∧ (∀ d, Mem (joinL K s) d ↔ Mem K d ∨ (s.1 ≤ d ∧ d < s.2)) ∧ (∀ t ∈ joinL K s, t.2 ≤ s.2) := by
  by_cases h : s.2 ≤ s.1
  · rw [joinL_no h]
    refine ⟨hK, fun d => ⟨fun hd => .inl hd, fun hd => ?_⟩, fun t ht => by have := hl t ht; omega⟩
    rcases hd with hd | hd
    · exact hd
    · omega
  · rcases snoc_of K with rfl | ⟨K', l, rfl⟩
    · rw [joinL_nil h]
      refine ⟨⟨by simp, fun t ht => by simp at ht; subst ht; omega⟩, fun d => ?_, fun t ht => by simp at ht; subst ht; omega⟩
      rw [Mem_one]
      constructor
      · exact fun h => .inr h
      · rintro (h | h)
        · exact absurd h (Mem_nil _)
        · exact h
    · obtain ⟨c1, c2, c3⟩ := Canon.snoc.1 hK
      by_cases e : l.2 = s.1
      · rw [joinL_on h e]
        refine ⟨Canon.snoc.2 ⟨c1, c2, by show l.1 < s.2; omega⟩, fun d => ?_, fun t ht => ?_⟩
        · rw [Mem_app, Mem_app, Mem_one, Mem_one]
          show Mem K' d ∨ (l.1 ≤ d ∧ d < s.2) ↔ _
          constructor
          · rintro (h | h)
            · exact .inl (.inl h)
            · by_cases hd : d < l.2
              · exact .inl (.inr ⟨h.1, hd⟩)
              · exact .inr ⟨by omega, h.2⟩
          · rintro ((h | h) | h)
            · exact .inl h
            · exact .inr ⟨h.1, by omega⟩
            · exact .inr ⟨by omega, h.2⟩
        · rcases List.mem_append.1 ht with ht | ht
          · have := hl t (List.mem_append_left _ ht); omega
          · simp at ht; subst ht; exact Int.le_refl _
      · rw [joinL_off h e]
        have hl1 := hl l (by simp)
        refine ⟨Canon.snoc.2 ⟨hK, fun t ht => ?_, by omega⟩, fun d => ?_, fun t ht => ?_⟩
        · rcases List.mem_append.1 ht with ht' | ht'
          · have := c2 t ht'; omega
          · simp at ht'; subst ht'; omega
        · rw [Mem_app (K' ++ [l]), Mem_one]
        · rcases List.mem_append.1 ht with ht' | ht'
          · have := hl t ht'; omega
          · simp at ht'; subst ht'; exact Int.le_refl _
theorem joinL_all {p : Int → Prop} {K : List Sp} {s : Sp} (hK : ∀ t ∈ K, p t.1 ∧ p t.2) (h1 : p s.1) (h2 : p s.2) : ∀ t ∈ joinL K s, p t.1 ∧ p t.2 := by
  by_cases h : s.2 ≤ s.1
  · rw [joinL_no h]; exact hK
  · rcases snoc_of K with rfl | ⟨K', l, rfl⟩
    · rw [joinL_nil h]; intro t ht; simp at ht; subst ht; exact ⟨h1, h2⟩
    · by_cases e : l.2 = s.1
      · rw [joinL_on h e]
        intro t ht
        rcases List.mem_append.1 ht with ht | ht
        · exact hK t (List.mem_append_left _ ht)
        · simp at ht; subst ht; exact ⟨(hK l (by simp)).1, h2⟩
      · rw [joinL_off h e]
        intro t ht
        rcases List.mem_append.1 ht with ht | ht
        · exact hK t ht
        · simp at ht; subst ht; exact ⟨h1, h2⟩

/-- An end: its day, by how much it turns the left count, and the right one. -/
abbrev Ev := Int × Int × Int
def sumL (E : Nat → Ev) : Nat → Int
  | 0 => 0
  | k + 1 => sumL E k + (E k).2.1
def sumR (E : Nat → Ev) : Nat → Int
  | 0 => 0
  | k + 1 => sumR E k + (E k).2.2
/-- Does the walk keep the days behind end k? -/
def keepAt (kp : Bool → Bool → Bool) (E : Nat → Ev) (k : Nat) : Bool := kp (decide (0 < sumL E (k + 1))) (decide (0 < sumR E (k + 1)))
/-- What the walk has gathered behind k of n ends. -/
def keptL (kp : Bool → Bool → Bool) (E : Nat → Ev) (n : Nat) : Nat → List Sp
  | 0 => []
  | k + 1 => if k + 1 < n ∧ keepAt kp E k = true then joinL (keptL kp E n k) ((E k).1, (E (k + 1)).1) else keptL kp E n k
theorem keptL_len (kp : Bool → Bool → Bool) (E : Nat → Ev) (n : Nat) : ∀ k, (keptL kp E n k).length ≤ k
  | 0 => Nat.le_refl _
  | k + 1 => by
    have h := keptL_len kp E n k
    have h2 := joinL_len (keptL kp E n k) ((E k).1, (E (k + 1)).1)
    unfold keptL
    split <;> omega
theorem keptL_all {p : Int → Prop} {kp : Bool → Bool → Bool} {E : Nat → Ev} {n : Nat} (h : ∀ k, k < n → p (E k).1) : ∀ k, k ≤ n → ∀ t ∈ keptL kp E n k, p t.1 ∧ p t.2
  | 0, _ => fun t ht => by cases ht
  | k + 1, hk => by
    have h1 := keptL_all (kp := kp) h k (by omega)
    unfold keptL
    split
    · rename_i hc
      exact joinL_all h1 (h k (by omega)) (h (k + 1) (by omega))
    · exact h1
theorem keptL_inv {kp : Bool → Bool → Bool} {E : Nat → Ev} {n : Nat} (hs : ∀ i, i + 1 < n → (E i).1 ≤ (E (i + 1)).1) : ∀ k, k ≤ n →
    Canon (keptL kp E n k) ∧ (∀ d, Mem (keptL kp E n k) d ↔ ∃ i, i < k ∧ i + 1 < n ∧ (E i).1 ≤ d ∧ d < (E (i + 1)).1 ∧ keepAt kp E i = true) ∧ (k < n → ∀ t ∈ keptL kp E n k, t.2 ≤ (E k).1)
  | 0, _ => ⟨Canon.nil, fun d => ⟨fun h => absurd h (Mem_nil _), fun ⟨i, hi, _⟩ => by omega⟩, fun _ t ht => by cases ht⟩
  | k + 1, hk => by
    obtain ⟨h1, h2, h3⟩ := keptL_inv (kp := kp) hs k (by omega)
    unfold keptL
    by_cases hc : k + 1 < n ∧ keepAt kp E k = true
    · rw [if_pos hc]
      obtain ⟨j1, j2, j3⟩ := joinL_canon (s := ((E k).1, (E (k + 1)).1)) h1 (hs k hc.1) (h3 (by omega))
      refine ⟨j1, fun d => ?_, fun _ => j3⟩
      rw [j2, h2]
      constructor
      · rintro (⟨i, hi, h⟩ | h)
        · exact ⟨i, by omega, h⟩
        · exact ⟨k, by omega, hc.1, h.1, h.2, hc.2⟩
      · rintro ⟨i, hi, h⟩
        by_cases e : i = k
        · subst e; exact .inr ⟨h.2.1, h.2.2.1⟩
        · exact .inl ⟨i, by omega, h⟩
    · rw [if_neg hc]
      refine ⟨h1, fun d => ?_, fun hn t ht => Int.le_trans (h3 (by omega) t ht) (hs k hn)⟩
      rw [h2]
      constructor
      · rintro ⟨i, hi, h⟩; exact ⟨i, by omega, h⟩
      · rintro ⟨i, hi, h⟩
        by_cases e : i = k
        · subst e; exact absurd ⟨h.1, h.2.2.2⟩ hc
        · exact ⟨i, by omega, h⟩

/-- How many ends up to a day turn the counts, and by how much. -/
def cntL (L : List Ev) (d : Int) : Int := (L.map (fun e => if e.1 ≤ d then e.2.1 else 0)).sum
def cntR (L : List Ev) (d : Int) : Int := (L.map (fun e => if e.1 ≤ d then e.2.2 else 0)).sum
theorem sum_app (l m : List Int) : (l ++ m).sum = l.sum + m.sum := by
  induction l with
  | nil => simp
  | cons a r ih => simp only [List.cons_append, List.sum_cons, ih]; omega
theorem sum_perm {l m : List Int} (h : l.Perm m) : l.sum = m.sum := by
  induction h with
  | nil => rfl
  | cons a _ ih => simp only [List.sum_cons, ih]
  | swap a b l => simp only [List.sum_cons]; omega
  | trans _ _ h1 h2 => exact h1.trans h2
theorem cntL_perm {L M : List Ev} (h : L.Perm M) (d : Int) : cntL L d = cntL M d := sum_perm (h.map _)
theorem cntR_perm {L M : List Ev} (h : L.Perm M) (d : Int) : cntR L d = cntR M d := sum_perm (h.map _)
theorem cntL_app (L M : List Ev) (d : Int) : cntL (L ++ M) d = cntL L d + cntL M d := by unfold cntL; rw [List.map_append, sum_app]
theorem cntR_app (L M : List Ev) (d : Int) : cntR (L ++ M) d = cntR L d + cntR M d := by unfold cntR; rw [List.map_append, sum_app]

/-- The first n of a row, as a list. -/
def evs (E : Nat → Ev) (n : Nat) : List Ev := (List.range n).map E
theorem evs_succ (E : Nat → Ev) (n : Nat) : evs E (n + 1) = evs E n ++ [E n] := by simp [evs, List.range_succ]
theorem cnt_upto {E : Nat → Ev} {d : Int} : ∀ {n k : Nat}, k ≤ n → (∀ i, i < k → (E i).1 ≤ d) → (∀ i, k ≤ i → i < n → d < (E i).1) → cntL (evs E n) d = sumL E k ∧ cntR (evs E n) d = sumR E k
  | 0, k, hk, _, _ => by
    obtain rfl : k = 0 := by omega
    exact ⟨rfl, rfl⟩
  | n + 1, k, hk, h1, h2 => by
    rw [evs_succ, cntL_app, cntR_app]
    by_cases e : k = n + 1
    · subst e
      obtain ⟨a, b⟩ := cnt_upto (E := E) (d := d) (n := n) (k := n) (Nat.le_refl _) (fun i hi => h1 i (by omega)) (fun i a b => by omega)
      have := h1 n (by omega)
      rw [a, b]
      simp [cntL, cntR, sumL, sumR, this]
    · obtain ⟨a, b⟩ := cnt_upto (E := E) (d := d) (n := n) (k := k) (by omega) h1 (fun i a b => h2 i a (by omega))
      have := h2 n (by omega) (by omega)
      rw [a, b]
      simp [cntL, cntR, show ¬ (E n).1 ≤ d by omega]

/-- The ends of spans that aren't empty, as those of a left set, or of a right one. -/
def endsL : List Sp → List Ev
  | [] => []
  | s :: r => (if s.2 ≤ s.1 then [] else [(s.1, 1, 0), (s.2, -1, 0)]) ++ endsL r
def endsR : List Sp → List Ev
  | [] => []
  | s :: r => (if s.2 ≤ s.1 then [] else [(s.1, 0, 1), (s.2, 0, -1)]) ++ endsR r
theorem endsR_of : ∀ L, endsR L = (endsL L).map (fun e => (e.1, 0, e.2.1))
  | [] => rfl
  | s :: r => by
    unfold endsR endsL
    rw [List.map_append, endsR_of r]
    split <;> rfl
theorem endsL_app : ∀ (L M : List Sp), endsL (L ++ M) = endsL L ++ endsL M
  | [], M => rfl
  | s :: r, M => by rw [List.cons_append, endsL, endsL, endsL_app r M, List.append_assoc]
theorem endsL_len : ∀ L, (endsL L).length ≤ 2 * L.length
  | [] => Nat.le_refl _
  | s :: r => by
    have := endsL_len r
    unfold endsL
    split <;> simp <;> omega
/-- How many of the spans have a day. -/
def many : List Sp → Int → Int
  | [], _ => 0
  | s :: r, d => (if s.1 ≤ d ∧ d < s.2 then 1 else 0) + many r d
theorem many_nn : ∀ L d, 0 ≤ many L d
  | [], d => Int.le_refl _
  | s :: r, d => by have := many_nn r d; unfold many; split <;> omega
theorem many_pos : ∀ L d, 0 < many L d ↔ Mem L d
  | [], d => ⟨fun h => by unfold many at h; omega, fun h => absurd h (Mem_nil _)⟩
  | s :: r, d => by
    have h0 := many_nn r d
    have h1 := many_pos r d
    rw [Mem_cons, ← h1]
    show 0 < (if s.1 ≤ d ∧ d < s.2 then 1 else 0) + many r d ↔ _
    generalize many r d = m at h0 h1 ⊢
    split
    · rename_i h; exact ⟨fun _ => .inl h, fun _ => by omega⟩
    · rename_i h; exact ⟨fun h2 => .inr (by omega), fun h2 => by rcases h2 with h2 | h2; exact absurd h2 h; omega⟩
theorem cnt_endsL : ∀ L d, cntL (endsL L) d = many L d ∧ cntR (endsL L) d = 0
  | [], d => ⟨rfl, rfl⟩
  | s :: r, d => by
    obtain ⟨a, b⟩ := cnt_endsL r d
    unfold endsL many
    rw [cntL_app, cntR_app, a, b]
    by_cases h : s.2 ≤ s.1
    · rw [if_pos h, if_neg (by omega)]; exact ⟨rfl, rfl⟩
    · rw [if_neg h]
      simp only [cntL, cntR, List.map_cons, List.map_nil, List.sum_cons, List.sum_nil]
      refine ⟨?_, by split <;> split <;> rfl⟩
      by_cases h1 : s.1 ≤ d <;> by_cases h2 : s.2 ≤ d
      · rw [if_pos h1, if_pos h2, if_neg (by omega)]; omega
      · rw [if_pos h1, if_neg h2, if_pos ⟨h1, by omega⟩]; omega
      · omega
      · rw [if_neg h1, if_neg h2, if_neg (by omega)]; omega
theorem cnt_endsR : ∀ L d, cntR (endsR L) d = many L d ∧ cntL (endsR L) d = 0
  | [], d => ⟨rfl, rfl⟩
  | s :: r, d => by
    obtain ⟨a, b⟩ := cnt_endsR r d
    unfold endsR many
    rw [cntL_app, cntR_app, a, b]
    by_cases h : s.2 ≤ s.1
    · rw [if_pos h, if_neg (by omega)]; exact ⟨rfl, rfl⟩
    · rw [if_neg h]
      simp only [cntL, cntR, List.map_cons, List.map_nil, List.sum_cons, List.sum_nil]
      refine ⟨?_, by split <;> split <;> rfl⟩
      by_cases h1 : s.1 ≤ d <;> by_cases h2 : s.2 ≤ d
      · rw [if_pos h1, if_pos h2, if_neg (by omega)]; omega
      · rw [if_pos h1, if_neg h2, if_pos ⟨h1, by omega⟩]; omega
      · omega
      · rw [if_neg h1, if_neg h2, if_neg (by omega)]; omega
theorem endsL_mem : ∀ {L : List Sp} {e : Ev}, e ∈ endsL L → ∃ s ∈ L, e.1 = s.1 ∨ e.1 = s.2
  | [], e, h => by cases h
  | s :: r, e, h => by
    unfold endsL at h
    rcases List.mem_append.1 h with h | h
    · split at h
      · cases h
      · simp at h
        rcases h with rfl | rfl
        · exact ⟨s, by simp, .inl rfl⟩
        · exact ⟨s, by simp, .inr rfl⟩
    · obtain ⟨t, ht, h⟩ := endsL_mem h
      exact ⟨t, List.mem_cons_of_mem _ ht, h⟩
theorem endsL_has : ∀ {L : List Sp} {s : Sp}, s ∈ L → s.1 < s.2 → (s.1, 1, 0) ∈ endsL L ∧ (s.2, -1, 0) ∈ endsL L
  | t :: r, s, h, hs => by
    unfold endsL
    rcases List.mem_cons.1 h with rfl | h
    · rw [if_neg (by omega)]; simp
    · obtain ⟨a, b⟩ := endsL_has h hs
      exact ⟨List.mem_append_right _ a, List.mem_append_right _ b⟩
theorem endsR_has {L : List Sp} {s : Sp} (h : s ∈ L) (hs : s.1 < s.2) : (s.1, 0, 1) ∈ endsR L ∧ (s.2, 0, -1) ∈ endsR L := by
  obtain ⟨a, b⟩ := endsL_has h hs
  rw [endsR_of]
  exact ⟨List.mem_map.2 ⟨_, a, rfl⟩, List.mem_map.2 ⟨_, b, rfl⟩⟩

/-- The place in a rising row at which a day lies. -/
theorem place_of {E : Nat → Ev} {d : Int} : ∀ {n : Nat}, (∀ i, i + 1 < n → (E i).1 ≤ (E (i + 1)).1) → (∃ i, i < n ∧ (E i).1 ≤ d) → (∃ j, j < n ∧ d < (E j).1) → ∃ i, i + 1 < n ∧ (E i).1 ≤ d ∧ d < (E (i + 1)).1
  | 0, _, ⟨i, h, _⟩, _ => by omega
  | n + 1, hs, ⟨i, hi, h1⟩, ⟨j, hj, h2⟩ => by
    by_cases hn : (E n).1 ≤ d
    · have hd : ∀ k, k + j ≤ n → (E j).1 ≤ (E (k + j)).1 := fun k => by
        induction k with
        | zero => intro _; rw [Nat.zero_add]; exact Int.le_refl _
        | succ k ih =>
          intro h
          have a := ih (by omega)
          have b := hs (k + j) (by omega)
          rw [show k + 1 + j = k + j + 1 by omega]
          omega
      have := hd (n - j) (by omega)
      rw [show n - j + j = n by omega] at this
      omega
    · by_cases hex : ∃ j, j < n ∧ d < (E j).1
      · have hi' : i < n := by
          by_cases e : i = n
          · subst e; omega
          · omega
        obtain ⟨k, h3, h4⟩ := place_of (fun i h => hs i (by omega)) ⟨i, hi', h1⟩ hex
        exact ⟨k, by omega, h4⟩
      · have hi' : i < n := by
          by_cases e : i = n
          · subst e; omega
          · omega
        refine ⟨n - 1, by omega, ?_, ?_⟩
        · by_cases h : (E (n - 1)).1 ≤ d
          · exact h
          · exact absurd ⟨n - 1, by omega, by omega⟩ hex
        · rw [show n - 1 + 1 = n by omega]; omega
theorem rise_le {E : Nat → Ev} {n : Nat} (hs : ∀ i, i + 1 < n → (E i).1 ≤ (E (i + 1)).1) : ∀ {k i : Nat}, i + k < n → (E i).1 ≤ (E (i + k)).1
  | 0, i, _ => Int.le_refl _
  | k + 1, i, h => by
    have a := rise_le hs (k := k) (i := i) (by omega)
    have b := hs (i + k) (by omega)
    rw [show i + (k + 1) = i + k + 1 by omega]
    omega

/-- The walk over the sorted ends of two lists of spans: its days are those that keep takes. -/
theorem walk_days {kp : Bool → Bool → Bool} {E : Nat → Ev} {n : Nat} {A B : List Sp} (hkp : kp false false = false) (hs : ∀ i, i + 1 < n → (E i).1 ≤ (E (i + 1)).1) (hp : (evs E n).Perm (endsL A ++ endsR B)) :
    Canon (keptL kp E n n) ∧ ∀ d, Mem (keptL kp E n n) d ↔ kp (decide (0 < many A d)) (decide (0 < many B d)) = true := by
  obtain ⟨h1, h2, -⟩ := keptL_inv (kp := kp) hs n (Nat.le_refl _)
  refine ⟨h1, fun d => ?_⟩
  have cl : cntL (evs E n) d = many A d := by rw [cntL_perm hp, cntL_app, (cnt_endsL A d).1, (cnt_endsR B d).2]; omega
  have cr : cntR (evs E n) d = many B d := by rw [cntR_perm hp, cntR_app, (cnt_endsL A d).2, (cnt_endsR B d).1]; omega
  have key : ∀ i, i + 1 < n → (E i).1 ≤ d → d < (E (i + 1)).1 → keepAt kp E i = kp (decide (0 < many A d)) (decide (0 < many B d)) := fun i hi a b => by
    obtain ⟨x, y⟩ := cnt_upto (E := E) (d := d) (n := n) (k := i + 1) (by omega) (fun j hj => by
      have := rise_le hs (k := i - j) (i := j) (by omega)
      rw [show j + (i - j) = i by omega] at this
      omega) (fun j hj hn => by
      have := rise_le hs (k := j - (i + 1)) (i := i + 1) (by omega)
      rw [show i + 1 + (j - (i + 1)) = j by omega] at this
      omega)
    unfold keepAt
    rw [← x, ← y, cl, cr]
  rw [h2]
  constructor
  · rintro ⟨i, -, hn, a, b, hk⟩
    rw [← key i hn a b]; exact hk
  · intro hk
    have hor : 0 < many A d ∨ 0 < many B d := by
      by_cases a : 0 < many A d
      · exact .inl a
      · by_cases b : 0 < many B d
        · exact .inr b
        · simp [a, b, hkp] at hk
    have hin : ∃ s : Sp, s.1 ≤ d ∧ d < s.2 ∧ (∃ i, i < n ∧ (E i).1 = s.1) ∧ (∃ j, j < n ∧ (E j).1 = s.2) := by
      have fnd : ∀ e, e ∈ endsL A ++ endsR B → ∃ i, i < n ∧ (E i).1 = e.1 := fun e he => by
        have := hp.symm.subset he
        unfold evs at this
        obtain ⟨i, hi, hE⟩ := List.mem_map.1 this
        exact ⟨i, by simpa using hi, by rw [hE]⟩
      rcases hor with h | h
      · obtain ⟨s, hsm, hs1, hs2⟩ := (many_pos A d).1 h
        obtain ⟨e1, e2⟩ := endsL_has hsm (by omega)
        exact ⟨s, hs1, hs2, fnd _ (List.mem_append_left _ e1), fnd _ (List.mem_append_left _ e2)⟩
      · obtain ⟨s, hsm, hs1, hs2⟩ := (many_pos B d).1 h
        obtain ⟨e1, e2⟩ := endsR_has hsm (by omega)
        exact ⟨s, hs1, hs2, fnd _ (List.mem_append_right _ e1), fnd _ (List.mem_append_right _ e2)⟩
    obtain ⟨s, a, b, ⟨i, hi, ei⟩, ⟨j, hj, ej⟩⟩ := hin
    obtain ⟨k, hk1, hk2, hk3⟩ := place_of (d := d) hs ⟨i, hi, by omega⟩ ⟨j, hj, by omega⟩
    exact ⟨k, by omega, hk1, hk2, hk3, by rw [key k hk1 hk2 hk3]; exact hk⟩



theorem getD_at {α : Type} (D : List α) {i : Nat} (z : α) (h : i < D.length) : D.getD i z = D[i] := by
  simp [List.getD, h]
/-- Days that rise, each once. -/
def Rise (D : List Int) : Prop := D.Pairwise (· < ·)
theorem Rise.cons {x : Int} {D : List Int} (h : Rise (x :: D)) : (∀ y ∈ D, x < y) ∧ Rise D := by
  cases h with
  | cons a b => exact ⟨a, b⟩
theorem rise_one : ∀ {D F : List Int}, Rise D → Rise F → (∀ x, x ∈ D ↔ x ∈ F) → D = F
  | [], [], _, _, _ => rfl
  | [], y :: F, _, _, h => by have := (h y).2 (by simp); cases this
  | x :: D, [], _, _, h => by have := (h x).1 (by simp); cases this
  | x :: D, y :: F, hD, hF, h => by
    obtain ⟨a, a'⟩ := hD.cons
    obtain ⟨b, b'⟩ := hF.cons
    have e : x = y := by
      have h1 : x ∈ y :: F := (h x).1 (by simp)
      have h2 : y ∈ x :: D := (h y).2 (by simp)
      rcases List.mem_cons.1 h1 with h1 | h1
      · exact h1
      · rcases List.mem_cons.1 h2 with h2 | h2
        · exact h2.symm
        · have := a y h2; have := b x h1; omega
    subst e
    refine congrArg _ (rise_one a' b' (fun z => ⟨fun hz => ?_, fun hz => ?_⟩))
    · have := a z hz
      rcases List.mem_cons.1 ((h z).1 (List.mem_cons_of_mem _ hz)) with h3 | h3
      · omega
      · exact h3
    · have := b z hz
      rcases List.mem_cons.1 ((h z).2 (List.mem_cons_of_mem _ hz)) with h3 | h3
      · omega
      · exact h3
theorem rise_at {D : List Int} (h : Rise D) {i j : Nat} (hij : i < j) (hj : j < D.length) : D.getD i 0 < D.getD j 0 := by
  have := List.pairwise_iff_getElem.1 h i j (by omega) hj hij
  rw [getD_at _ _ (by omega), getD_at _ _ hj]
  exact this
/-- A day put into days that rise, at its place. -/
def putAt (D : List Int) (a : Nat) (d : Int) : List Int := if a < D.length ∧ D.getD a 0 = d then D else D.take a ++ [d] ++ D.drop a
theorem putAt_rise {D : List Int} {a : Nat} {d : Int} (hD : Rise D) (ha : a ≤ D.length) (h1 : ∀ j, j < a → D.getD j 0 < d) (h2 : a < D.length → d ≤ D.getD a 0) :
    Rise (putAt D a d) ∧ ∀ x, x ∈ putAt D a d ↔ x = d ∨ x ∈ D := by
  unfold putAt
  by_cases h : a < D.length ∧ D.getD a 0 = d
  · rw [if_pos h]
    refine ⟨hD, fun x => ⟨fun hx => .inr hx, fun hx => ?_⟩⟩
    rcases hx with rfl | hx
    · rw [← h.2, getD_at _ _ h.1]; exact List.getElem_mem _
    · exact hx
  · rw [if_neg h]
    have tk : ∀ x ∈ D.take a, x < d := fun x hx => by
      obtain ⟨j, hj, rfl⟩ := List.mem_iff_getElem.1 hx
      have hj' : j < a ∧ j < D.length := by rw [List.length_take] at hj; omega
      have := h1 j hj'.1
      rw [getD_at _ _ hj'.2] at this
      simpa using this
    have dr : ∀ x ∈ D.drop a, d < x := fun x hx => by
      obtain ⟨j, hj, rfl⟩ := List.mem_iff_getElem.1 hx
      have hj' : a + j < D.length := by simp at hj; omega
      have h0 := h2 (by omega)
      have hne : D.getD a 0 ≠ d := fun e => h ⟨by omega, e⟩
      rw [List.getElem_drop]
      have e1 : D.getD (a + j) 0 = D[a + j] := getD_at _ _ hj'
      rw [← e1]
      by_cases e : j = 0
      · subst e; simp only [Nat.add_zero]; omega
      · have := rise_at hD (i := a) (j := a + j) (by omega) hj'
        omega
    refine ⟨?_, fun x => ?_⟩
    · unfold Rise
      rw [List.append_assoc, List.pairwise_append]
      refine ⟨hD.take, ?_, ?_⟩
      · rw [List.singleton_append, List.pairwise_cons]
        exact ⟨fun y hy => dr y hy, hD.drop⟩
      · intro x hx y hy
        rw [List.singleton_append] at hy
        rcases List.mem_cons.1 hy with rfl | hy
        · exact tk x hx
        · have := tk x hx; have := dr y hy; omega
    · have hm : x ∈ D ↔ x ∈ D.take a ∨ x ∈ D.drop a := by
        rw [← List.mem_append, List.take_append_drop]
      rw [hm]
      simp only [List.mem_append, List.mem_singleton]
      constructor
      · rintro ((h | h) | h)
        · exact .inr (.inl h)
        · exact .inl h
        · exact .inr (.inr h)
      · rintro (h | h | h)
        · exact .inl (.inr h)
        · exact .inl (.inl h)
        · exact .inr h
theorem putAt_len {D : List Int} {a : Nat} {d : Int} : (putAt D a d).length ≤ D.length + 1 := by
  unfold putAt
  split
  · omega
  · simp; omega

/-- Is a day in one of the spans? -/
def hasB (L : List Sp) (d : Int) : Bool := decide (0 < many L d)
theorem hasB_iff {L : List Sp} {d : Int} : hasB L d = true ↔ Mem L d := by unfold hasB; rw [decide_eq_true_iff]; exact many_pos L d
theorem many_same : ∀ {L : List Sp} {d e : Int}, (∀ s ∈ L, s.1 < s.2 → ((s.1 ≤ d ↔ s.1 ≤ e) ∧ (d < s.2 ↔ e < s.2))) → many L d = many L e
  | [], _, _, _ => rfl
  | s :: r, d, e, h => by
    have h0 := many_same (L := r) (d := d) (e := e) (fun t ht => h t (List.mem_cons_of_mem _ ht))
    unfold many
    rw [h0]
    congr 1
    by_cases hs : s.1 < s.2
    · obtain ⟨a, b⟩ := h s (by simp) hs
      by_cases c : s.1 ≤ d ∧ d < s.2
      · rw [if_pos c, if_pos ⟨a.1 c.1, b.1 c.2⟩]
      · rw [if_neg c, if_neg (fun x => c ⟨a.2 x.1, b.2 x.2⟩)]
    · rw [if_neg (by omega), if_neg (by omega)]

/-- The document's way: what is closed, and where the open one began. -/
def refSt (P : Int → Bool) (D : Nat → Int) : Nat → List Sp × Option Int
  | 0 => ([], none)
  | k + 1 => match refSt P D k with
    | (K, none) => if P (D k) = true then (K, some (D k)) else (K, none)
    | (K, some f) => if P (D k) = true then (K, some f) else (K ++ [(f, D k)], none)
theorem refSt_len (P : Int → Bool) (D : Nat → Int) : ∀ k, (refSt P D k).1.length ≤ k ∧ ((refSt P D k).2.isSome = true → (refSt P D k).1.length < k)
  | 0 => ⟨Nat.le_refl _, fun h => by cases h⟩
  | k + 1 => by
    obtain ⟨a, b⟩ := refSt_len P D k
    unfold refSt
    match refSt P D k, a, b with
    | (K, none), a, b => by_cases h : P (D k) = true <;> simp [h] <;> simp at a <;> omega
    | (K, some f), a, b => by_cases h : P (D k) = true <;> simp [h] <;> simp at b <;> omega
structure RefInv (P : Int → Bool) (D : Nat → Int) (n k : Nat) (K : List Sp) (o : Option Int) : Prop where
  canon : Canon K
  last : ∀ t ∈ K, 0 < k ∧ t.2 ≤ D (k - 1)
  start : ∀ f, o = some f → 0 < k ∧ f ≤ D (k - 1) ∧ ∀ t ∈ K, t.2 < f
  isP : 0 < k → o.isSome = P (D (k - 1))
  days : ∀ d, (k < n → d < D k) → ((Mem K d ∨ ∃ f, o = some f ∧ f ≤ d) ↔ P d = true)
theorem refSt_inv {P : Int → Bool} {D : Nat → Int} {n : Nat} (hr : ∀ i, i + 1 < n → D i < D (i + 1)) (h0 : n = 0 → ∀ d, P d = false) (hl : ∀ d, 0 < n → d < D 0 → P d = false) (hc : ∀ i d, i + 1 < n → D i ≤ d → d < D (i + 1) → P d = P (D i)) (hh : ∀ d, 0 < n → D (n - 1) ≤ d → P d = false) :
    ∀ k, k ≤ n → RefInv P D n k (refSt P D k).1 (refSt P D k).2
  | 0, _ => by
    refine ⟨Canon.nil, (fun t ht => by cases ht), (fun f h => by cases h), (fun h => by omega), fun d hd => ⟨?_, fun h => ?_⟩⟩
    · rintro (h | ⟨f, h, _⟩)
      · exact absurd h (Mem_nil _)
      · cases h
    · by_cases e : n = 0
      · rw [h0 e d] at h; cases h
      · rw [hl d (by omega) (hd (by omega))] at h; cases h
  | k + 1, hk => by
    have ih := refSt_inv hr h0 hl hc hh k (by omega)
    have val : ∀ d, D k ≤ d → (k + 1 < n → d < D (k + 1)) → P d = P (D k) := fun d h1 h2 => by
      by_cases e : k + 1 < n
      · exact hc k d e h1 (h2 e)
      · obtain rfl : n = k + 1 := by omega
        rw [hh d (by omega) (by simpa using h1), hh (D k) (by omega) (by simp)]
    have up : 0 < k → D (k - 1) < D k := fun h => by
      have := hr (k - 1) (by omega)
      rwa [show k - 1 + 1 = k by omega] at this
    have notK : ∀ (K : List Sp) d, D k ≤ d → (∀ t ∈ K, 0 < k ∧ t.2 ≤ D (k - 1)) → ¬ Mem K d := by
      rintro K d hd hK ⟨t, ht, h1, h2⟩
      obtain ⟨a, b⟩ := hK t ht
      have := up a
      omega
    unfold refSt
    match hst : refSt P D k, ih with
    | (K, none), ih =>
      obtain ⟨c1, c2, c3, c4, c5⟩ := ih
      simp only at c1 c2 c3 c4 c5
      by_cases hP : P (D k) = true
      · dsimp only; rw [if_pos hP]
        refine ⟨c1, fun t ht => ?_, fun f hf => ?_, fun _ => by simp [hP], fun d hd => ?_⟩
        · obtain ⟨a, b⟩ := c2 t ht; have := up a; exact ⟨by omega, by simp; omega⟩
        · injection hf with hf; subst hf
          exact ⟨by omega, by simp, fun t ht => by obtain ⟨a, b⟩ := c2 t ht; have := up a; omega⟩
        · by_cases hdk : d < D k
          · rw [← c5 d (fun _ => hdk)]
            constructor
            · rintro (h | ⟨f, hf, h⟩)
              · exact .inl h
              · injection hf with hf; omega
            · rintro (h | ⟨f, hf, h⟩)
              · exact .inl h
              · cases hf
          · exact ⟨fun _ => by rw [val d (by omega) hd]; exact hP, fun _ => .inr ⟨_, rfl, by omega⟩⟩
      · dsimp only; rw [if_neg hP]
        refine ⟨c1, fun t ht => ?_, (fun f hf => by cases hf), fun _ => by simp at hP; simp [hP], fun d hd => ?_⟩
        · obtain ⟨a, b⟩ := c2 t ht; have := up a; exact ⟨by omega, by simp; omega⟩
        · by_cases hdk : d < D k
          · rw [← c5 d (fun _ => hdk)]
          · rw [val d (by omega) hd]
            constructor
            · rintro (h | ⟨f, hf, h⟩)
              · exact absurd h (notK K d (by omega) c2)
              · cases hf
            · intro h; exact absurd h hP
    | (K, some f), ih =>
      obtain ⟨c1, c2, c3, c4, c5⟩ := ih
      simp only at c1 c2 c3 c4 c5
      obtain ⟨f0, f1, f2⟩ := c3 f rfl
      have hup := up f0
      by_cases hP : P (D k) = true
      · dsimp only; rw [if_pos hP]
        refine ⟨c1, fun t ht => ?_, fun g hg => ?_, fun _ => by simp [hP], fun d hd => ?_⟩
        · obtain ⟨a, b⟩ := c2 t ht; exact ⟨by omega, by simp; omega⟩
        · injection hg with hg; subst hg
          exact ⟨by omega, by simp; omega, f2⟩
        · by_cases hdk : d < D k
          · rw [← c5 d (fun _ => hdk)]
          · exact ⟨fun _ => by rw [val d (by omega) hd]; exact hP, fun _ => .inr ⟨_, rfl, by omega⟩⟩
      · dsimp only; rw [if_neg hP]
        refine ⟨Canon.snoc.2 ⟨c1, f2, by show f < D k; omega⟩, fun t ht => ?_, (fun f hf => by cases hf), fun _ => by simp at hP; simp [hP], fun d hd => ?_⟩
        · refine ⟨by omega, ?_⟩
          rcases List.mem_append.1 ht with ht | ht
          · obtain ⟨a, b⟩ := c2 t ht; simp; omega
          · simp at ht; subst ht; simp
        · rw [Mem_app, Mem_one]
          show (Mem K d ∨ (f ≤ d ∧ d < D k)) ∨ _ ↔ _
          by_cases hdk : d < D k
          · rw [← c5 d (fun _ => hdk)]
            constructor
            · rintro ((h | h) | ⟨g, hg, h⟩)
              · exact .inl h
              · exact .inr ⟨f, rfl, h.1⟩
              · cases hg
            · rintro (h | ⟨g, hg, h⟩)
              · exact .inl (.inl h)
              · injection hg with hg; subst hg; exact .inl (.inr ⟨h, hdk⟩)
          · rw [val d (by omega) hd]
            constructor
            · rintro ((h | h) | ⟨g, hg, h⟩)
              · exact absurd h (notK K d (by omega) c2)
              · omega
              · cases hg
            · intro h; exact absurd h hP
theorem refSt_end {P : Int → Bool} {D : Nat → Int} {n : Nat} (hr : ∀ i, i + 1 < n → D i < D (i + 1)) (h0 : n = 0 → ∀ d, P d = false) (hl : ∀ d, 0 < n → d < D 0 → P d = false) (hc : ∀ i d, i + 1 < n → D i ≤ d → d < D (i + 1) → P d = P (D i)) (hh : ∀ d, 0 < n → D (n - 1) ≤ d → P d = false) :
    (refSt P D n).2 = none ∧ Canon (refSt P D n).1 ∧ ∀ d, Mem (refSt P D n).1 d ↔ P d = true := by
  obtain ⟨c1, c2, c3, c4, c5⟩ := refSt_inv hr h0 hl hc hh n (Nat.le_refl _)
  have hn : (refSt P D n).2 = none := by
    by_cases e : n = 0
    · subst e; rfl
    · have h := c4 (by omega)
      rw [hh (D (n - 1)) (by omega) (by omega)] at h
      cases ho : (refSt P D n).2 with
      | none => rfl
      | some f => rw [ho] at h; cases h
  refine ⟨hn, c1, fun d => ?_⟩
  rw [← c5 d (fun h => by omega), hn]
  constructor
  · exact fun h => .inl h
  · rintro (h | ⟨f, hf, _⟩)
    · exact h
    · cases hf

/-- Taken together: 1: one of both, 2: both, else the first one alone. -/
def wayB (way : Int) (x y : Bool) : Bool := if way = 1 then x || y else if way = 2 then x && y else x && !y
/-- The ends of spans, as days that rise, stand as the document's way wants them. -/
theorem ends_const {A : List Sp} {D : List Int} (hD : Rise D) (hE : ∀ s ∈ A, s.1 < s.2 → s.1 ∈ D ∧ s.2 ∈ D) :
    (D.length = 0 → ∀ d, hasB A d = false) ∧ (∀ d, 0 < D.length → d < D.getD 0 0 → hasB A d = false) ∧ (∀ i d, i + 1 < D.length → D.getD i 0 ≤ d → d < D.getD (i + 1) 0 → hasB A d = hasB A (D.getD i 0)) ∧ (∀ d, 0 < D.length → D.getD (D.length - 1) 0 ≤ d → hasB A d = false) := by
  have idx : ∀ x ∈ D, ∃ j, j < D.length ∧ D.getD j 0 = x := fun x hx => by
    obtain ⟨j, hj, e⟩ := List.mem_iff_getElem.1 hx
    exact ⟨j, hj, by rw [getD_at _ _ hj]; exact e⟩
  have no : ∀ d, (∀ s ∈ A, s.1 < s.2 → ¬ (s.1 ≤ d ∧ d < s.2)) → hasB A d = false := fun d h => by
    cases e : hasB A d
    · rfl
    · obtain ⟨s, hs, h1, h2⟩ := hasB_iff.1 e
      exact absurd ⟨h1, h2⟩ (h s hs (by omega))
  have le : ∀ i j, i ≤ j → j < D.length → D.getD i 0 ≤ D.getD j 0 := fun i j hij hj => by
    by_cases e : i = j
    · subst e; omega
    · have := rise_at hD (i := i) (j := j) (by omega) hj; omega
  refine ⟨fun h d => no d (fun s hs h1 _ => ?_), fun d h hd => no d (fun s hs h1 h2 => ?_), fun i d hi h1 h2 => ?_, fun d h hd => no d (fun s hs h1 h2 => ?_)⟩
  · obtain ⟨j, hj, _⟩ := idx _ (hE s hs h1).1; omega
  · obtain ⟨j, hj, e⟩ := idx _ (hE s hs h1).1
    have := le 0 j (by omega) hj
    omega
  · unfold hasB
    rw [many_same (d := d) (e := D.getD i 0) (fun s hs hlt => ?_)]
    obtain ⟨a, ha, ea⟩ := idx _ (hE s hs hlt).1
    obtain ⟨b, hb, eb⟩ := idx _ (hE s hs hlt).2
    have key : ∀ j, j < D.length → (D.getD j 0 ≤ d ↔ D.getD j 0 ≤ D.getD i 0) := fun j hj => by
      by_cases hij : j ≤ i
      · have := le j i hij (by omega); omega
      · have := le (i + 1) j (by omega) hj
        have := rise_at hD (i := i) (j := i + 1) (by omega) hi
        omega
    have k1 := key a ha
    have k2 := key b hb
    rw [ea] at k1
    rw [eb] at k2
    omega
  · obtain ⟨j, hj, e⟩ := idx _ (hE s hs h1).2
    have := le j (D.length - 1) (by omega) (by omega)
    omega
theorem wayB_ff (way : Int) : wayB way false false = false := by unfold wayB; split; rfl; split <;> rfl
/-- What the document's Together comes to. -/
theorem together_end {A B : List Sp} {D : List Int} (way : Int) (hD : Rise D) (hA : ∀ s ∈ A, s.1 < s.2 → s.1 ∈ D ∧ s.2 ∈ D) (hB : ∀ s ∈ B, s.1 < s.2 → s.1 ∈ D ∧ s.2 ∈ D) :
    (refSt (fun d => wayB way (hasB A d) (hasB B d)) (fun i => D.getD i 0) D.length).2 = none ∧ Canon (refSt (fun d => wayB way (hasB A d) (hasB B d)) (fun i => D.getD i 0) D.length).1 ∧ ∀ d, Mem (refSt (fun d => wayB way (hasB A d) (hasB B d)) (fun i => D.getD i 0) D.length).1 d ↔ wayB way (hasB A d) (hasB B d) = true := by
  obtain ⟨a1, a2, a3, a4⟩ := ends_const hD hA
  obtain ⟨b1, b2, b3, b4⟩ := ends_const hD hB
  exact refSt_end (fun i hi => rise_at hD (by omega) hi) (fun h d => by rw [a1 h, b1 h]; exact wayB_ff _) (fun d h hd => by rw [a2 d h hd, b2 d h hd]; exact wayB_ff _)
    (fun i d hi h1 h2 => by rw [a3 i d hi h1 h2, b3 i d hi h1 h2]) (fun d h hd => by rw [a4 d h hd, b4 d h hd]; exact wayB_ff _)

/-- The pieces of a span, cut at days. -/
def pcs : Int → List Int → Int → List Sp
  | f, [], t => [(f, t)]
  | f, c :: r, t => (f, c) :: pcs c r t
def prs : Int → List Int → List Sp
  | _, [] => []
  | f, c :: r => (f, c) :: prs c r
theorem prs_snoc : ∀ (f : Int) (r : List Int) (c : Int), prs f (r ++ [c]) = prs f r ++ [(r.getLastD f, c)]
  | f, [], c => rfl
  | f, x :: r, c => by
    show (f, x) :: prs x (r ++ [c]) = (f, x) :: prs x r ++ [(_, c)]
    rw [prs_snoc x r c, List.getLastD_cons]
    rfl
theorem pcs_snoc : ∀ (f : Int) (r : List Int) (t : Int), pcs f r t = prs f r ++ [(r.getLastD f, t)]
  | f, [], t => rfl
  | f, x :: r, t => by
    show (f, x) :: pcs x r t = (f, x) :: prs x r ++ [(_, t)]
    rw [pcs_snoc x r t, List.getLastD_cons]
    rfl
theorem prs_len : ∀ (f : Int) (r : List Int), (prs f r).length = r.length
  | _, [] => rfl
  | f, x :: r => by show (prs x r).length + 1 = r.length + 1; rw [prs_len x r]
theorem pcs_len (f : Int) (r : List Int) (t : Int) : (pcs f r t).length = r.length + 1 := by rw [pcs_snoc]; simp [prs_len]
theorem pcs_at : ∀ (f : Int) (r : List Int) (t : Int) (i : Nat), i < r.length + 1 → (pcs f r t).getD i (0, 0) = ((f :: r).getD i 0, if i + 1 < r.length + 1 then (f :: r).getD (i + 1) 0 else t)
  | f, [], t, i, h => by
    obtain rfl : i = 0 := by simp at h; omega
    rfl
  | f, x :: r, t, 0, h => by simp [pcs]
  | f, x :: r, t, i + 1, h => by
    have := pcs_at x r t i (by simpa using h)
    show (pcs x r t).getD i (0, 0) = _
    rw [this]
    simp
theorem pcs_days : ∀ {f : Int} {r : List Int} {t : Int}, Rise (f :: r) → (∀ x ∈ f :: r, x < t) → ∀ d, Mem (pcs f r t) d ↔ f ≤ d ∧ d < t
  | f, [], t, _, _, d => by show Mem [(f, t)] d ↔ _; rw [Mem_one]
  | f, x :: r, t, hr, ht, d => by
    obtain ⟨h1, h2⟩ := hr.cons
    have h3 := h1 x (by simp)
    have h4 := ht x (by simp)
    show Mem ((f, x) :: pcs x r t) d ↔ _
    rw [Mem_cons, pcs_days h2 (fun y hy => ht y (List.mem_cons_of_mem _ hy)) d]
    show (f ≤ d ∧ d < x) ∨ _ ↔ _
    omega

/-- How many days a span has, and spans. -/
def lenS (s : Sp) : Int := if s.2 ≤ s.1 then 0 else s.2 - s.1
def cut62 (x : Int) : Int := if x ≤ 4611686018427387904 then x else 4611686018427387904
def dsum : List Sp → Int
  | [] => 0
  | s :: r => lenS s + dsum r
theorem lenS_nn (s : Sp) : 0 ≤ lenS s := by unfold lenS; split <;> omega
theorem dsum_nn : ∀ L, 0 ≤ dsum L
  | [] => Int.le_refl _
  | s :: r => by have := lenS_nn s; have := dsum_nn r; unfold dsum; omega
theorem dsum_app : ∀ (K L : List Sp), dsum (K ++ L) = dsum K + dsum L
  | [], L => by simp [dsum]
  | s :: r, L => by rw [List.cons_append, dsum, dsum, dsum_app r L]; omega
theorem dsum_snoc (K : List Sp) (s : Sp) : dsum (K ++ [s]) = dsum K + lenS s := by rw [dsum_app]; simp [dsum]
theorem pcs_dsum : ∀ {f : Int} {r : List Int} {t : Int}, Rise (f :: r) → (∀ x ∈ f :: r, x < t) → dsum (pcs f r t) = t - f
  | f, [], t, _, ht => by
    have := ht f (by simp)
    show dsum [(f, t)] = _
    simp only [dsum, lenS]
    rw [if_neg (by omega)]; omega
  | f, x :: r, t, hr, ht => by
    obtain ⟨h1, h2⟩ := hr.cons
    have h3 := h1 x (by simp)
    show dsum ((f, x) :: pcs x r t) = _
    rw [dsum, pcs_dsum h2 (fun y hy => ht y (List.mem_cons_of_mem _ hy))]
    simp only [lenS]
    rw [if_neg (by omega)]; omega
/-- How many days from a on, of n, are such. -/
def cntP (P : Int → Bool) (a : Int) : Nat → Int
  | 0 => 0
  | n + 1 => cntP P a n + (if P (a + n) = true then 1 else 0)
theorem cntP_add {P Q R S : Int → Bool} (a : Int) : ∀ (n : Nat), (∀ d, (if P d = true then (1 : Int) else 0) + (if Q d = true then 1 else 0) = (if R d = true then 1 else 0) + (if S d = true then 1 else 0)) → cntP P a n + cntP Q a n = cntP R a n + cntP S a n
  | 0, _ => rfl
  | n + 1, h => by
    have h1 := cntP_add (P := P) (Q := Q) (R := R) (S := S) a n h
    have h2 := h (a + n)
    unfold cntP
    omega
theorem cntP_no (a : Int) : ∀ (n : Nat), cntP (fun _ => false) a n = 0
  | 0 => rfl
  | n + 1 => by unfold cntP; rw [cntP_no a n]; rfl
theorem cntP_span (x y a : Int) (hxy : x ≤ y) (hx : a ≤ x) : ∀ (n : Nat), cntP (fun d => decide (x ≤ d ∧ d < y)) a n = if a + n ≤ x then 0 else if a + n ≤ y then a + n - x else y - x
  | 0 => by unfold cntP; split; rfl; split <;> omega
  | n + 1 => by
    unfold cntP
    rw [cntP_span x y a hxy hx n]
    simp only [decide_eq_true_eq]
    by_cases h : x ≤ a + n ∧ a + n < y
    · rw [if_pos h]; push_cast; repeat' split
      all_goals omega
    · rw [if_neg h]; push_cast; repeat' split
      all_goals omega
theorem dsum_cnt (a : Int) (n : Nat) : ∀ {K : List Sp}, Canon K → (∀ s ∈ K, a ≤ s.1 ∧ s.2 ≤ a + n) → dsum K = cntP (hasB K) a n
  | [], _, _ => by
    have : hasB [] = fun _ => false := by funext d; simp [hasB, many]
    rw [this, cntP_no]; rfl
  | s :: r, hK, hb => by
    obtain ⟨h1, h2, h3⟩ := hK.cons
    obtain ⟨b1, b2⟩ := hb s (by simp)
    have h0 := dsum_cnt a n h3 (fun t ht => hb t (List.mem_cons_of_mem _ ht))
    have hs := cntP_span s.1 s.2 a (by omega) b1 n
    have hadd := cntP_add (P := fun d => decide (s.1 ≤ d ∧ d < s.2)) (Q := hasB r) (R := hasB (s :: r)) (S := fun _ => false) a n (fun d => by
      by_cases c : s.1 ≤ d ∧ d < s.2
      · have nr : hasB r d = false := by
          cases e : hasB r d
          · rfl
          · obtain ⟨t, ht, h4, h5⟩ := hasB_iff.1 e
            have := h2 t ht
            omega
        have yes : hasB (s :: r) d = true := hasB_iff.2 ((Mem_cons ..).2 (.inl c))
        simp [nr, yes, c]
      · have e : hasB (s :: r) d = hasB r d := by
          unfold hasB
          rw [show many (s :: r) d = many r d by rw [many, if_neg c]; omega]
        rw [e]
        simp [c])
    rw [cntP_no] at hadd
    rw [dsum, h0]
    unfold lenS
    rw [if_neg (by omega)]
    rw [hs] at hadd
    rw [if_neg (by omega)] at hadd
    split at hadd <;> omega


open Go Go.RowKit Go.Proofs

/-- Spans, ends and days as cells. -/
def spC (L : List Sp) : List Value := L.flatMap (fun s => [.int .i64 s.1, .int .i64 s.2])
def evC (L : List Ev) : List Value := L.flatMap (fun e => [.int .i64 e.1, .int .i64 e.2.1, .int .i64 e.2.2])
def dyC (L : List Int) : List Value := L.map (fun d => .int .i64 d)
theorem spC_len : ∀ L, (spC L).length = L.length * 2
  | [] => rfl
  | s :: r => by show (spC r).length + 2 = _; rw [spC_len r]; simp; omega
theorem evC_len : ∀ L, (evC L).length = L.length * 3
  | [] => rfl
  | s :: r => by show (evC r).length + 3 = _; rw [evC_len r]; simp; omega
theorem dyC_len (L : List Int) : (dyC L).length = L.length := by simp [dyC]
theorem spC_app (K L : List Sp) : spC (K ++ L) = spC K ++ spC L := by simp [spC]
theorem evC_app (K L : List Ev) : evC (K ++ L) = evC K ++ evC L := by simp [evC]
theorem dyC_app (K L : List Int) : dyC (K ++ L) = dyC K ++ dyC L := by simp [dyC]
theorem spC_at : ∀ (L : List Sp) (j : Nat), j < L.length → (spC L)[j * 2]? = some (.int .i64 (L.getD j (0, 0)).1) ∧ (spC L)[j * 2 + 1]? = some (.int .i64 (L.getD j (0, 0)).2)
  | s :: r, 0, _ => ⟨rfl, rfl⟩
  | s :: r, j + 1, h => by
    obtain ⟨a, b⟩ := spC_at r j (by simpa using h)
    rw [show (j + 1) * 2 = j * 2 + 2 by omega]
    exact ⟨a, b⟩
theorem evC_at : ∀ (L : List Ev) (j : Nat), j < L.length → (evC L)[j * 3]? = some (.int .i64 (L.getD j (0, 0, 0)).1) ∧ (evC L)[j * 3 + 1]? = some (.int .i64 (L.getD j (0, 0, 0)).2.1) ∧ (evC L)[j * 3 + 2]? = some (.int .i64 (L.getD j (0, 0, 0)).2.2)
  | s :: r, 0, _ => ⟨rfl, rfl, rfl⟩
  | s :: r, j + 1, h => by
    obtain ⟨a, b, c⟩ := evC_at r j (by simpa using h)
    rw [show (j + 1) * 3 = j * 3 + 3 by omega]
    exact ⟨a, b, c⟩
theorem dyC_at (L : List Int) (j : Nat) (h : j < L.length) : (dyC L)[j]? = some (.int .i64 (L.getD j 0)) := by
  simp [dyC, h]
theorem spC_one {L : List Sp} : ∀ u ∈ spC L, u.oneCell' = true := fun u hu => by
  simp only [spC, List.mem_flatMap] at hu
  obtain ⟨s, -, hu⟩ := hu
  simp at hu
  rcases hu with rfl | rfl <;> rfl
theorem evC_one {L : List Ev} : ∀ u ∈ evC L, u.oneCell' = true := fun u hu => by
  simp only [evC, List.mem_flatMap] at hu
  obtain ⟨s, -, hu⟩ := hu
  simp at hu
  rcases hu with rfl | rfl | rfl <;> rfl
theorem dyC_one {L : List Int} : ∀ u ∈ dyC L, u.oneCell' = true := fun u hu => by
  simp only [dyC, List.mem_map] at hu
  obtain ⟨s, -, rfl⟩ := hu
  rfl

/-- Spans, ends and days lie in memory. -/
def SpansIn (w : World) (p : Option Addr) (L : List Sp) : Prop :=
  L = [] ∨ ∃ b o, p = some ⟨b, o, none⟩ ∧ ∀ j, j < L.length → w.cell? ⟨b, o + j * 2, none⟩ = some (.int .i64 (L.getD j (0, 0)).1) ∧ w.cell? ⟨b, o + j * 2 + 1, none⟩ = some (.int .i64 (L.getD j (0, 0)).2)
def EvsIn (w : World) (p : Option Addr) (L : List Ev) : Prop :=
  L = [] ∨ ∃ b o, p = some ⟨b, o, none⟩ ∧ ∀ j, j < L.length → w.cell? ⟨b, o + j * 3, none⟩ = some (.int .i64 (L.getD j (0, 0, 0)).1) ∧ w.cell? ⟨b, o + j * 3 + 1, none⟩ = some (.int .i64 (L.getD j (0, 0, 0)).2.1) ∧ w.cell? ⟨b, o + j * 3 + 2, none⟩ = some (.int .i64 (L.getD j (0, 0, 0)).2.2)
def DaysIn (w : World) (p : Option Addr) (L : List Int) : Prop :=
  L = [] ∨ ∃ b o, p = some ⟨b, o, none⟩ ∧ ∀ j, j < L.length → w.cell? ⟨b, o + j, none⟩ = some (.int .i64 (L.getD j 0))
theorem SpansIn.below {w w' : World} {p : Option Addr} {L : List Sp} {B : Nat} (h : SpansIn w p L) (hb : Below B w w') (hB : w.heap.size ≤ B) : SpansIn w' p L := by
  rcases h with h | ⟨b, o, rfl, hc⟩
  · exact .inl h
  · refine .inr ⟨b, o, rfl, fun j hj => ?_⟩
    obtain ⟨h1, h2⟩ := hc j hj
    have hbl : b < w.heap.size := World.block_lt_of_cell? w _ h1
    exact ⟨(hb.cell (p := ⟨b, o + j * 2, none⟩) (Nat.lt_of_lt_of_le hbl hB)).trans h1, (hb.cell (p := ⟨b, o + j * 2 + 1, none⟩) (Nat.lt_of_lt_of_le hbl hB)).trans h2⟩
theorem EvsIn.below {w w' : World} {p : Option Addr} {L : List Ev} {B : Nat} (h : EvsIn w p L) (hb : Below B w w') (hB : w.heap.size ≤ B) : EvsIn w' p L := by
  rcases h with h | ⟨b, o, rfl, hc⟩
  · exact .inl h
  · refine .inr ⟨b, o, rfl, fun j hj => ?_⟩
    obtain ⟨h1, h2, h3⟩ := hc j hj
    have hbl : b < w.heap.size := World.block_lt_of_cell? w _ h1
    exact ⟨(hb.cell (p := ⟨b, o + j * 3, none⟩) (Nat.lt_of_lt_of_le hbl hB)).trans h1, (hb.cell (p := ⟨b, o + j * 3 + 1, none⟩) (Nat.lt_of_lt_of_le hbl hB)).trans h2, (hb.cell (p := ⟨b, o + j * 3 + 2, none⟩) (Nat.lt_of_lt_of_le hbl hB)).trans h3⟩
theorem DaysIn.below {w w' : World} {p : Option Addr} {L : List Int} {B : Nat} (h : DaysIn w p L) (hb : Below B w w') (hB : w.heap.size ≤ B) : DaysIn w' p L := by
  rcases h with h | ⟨b, o, rfl, hc⟩
  · exact .inl h
  · refine .inr ⟨b, o, rfl, fun j hj => ?_⟩
    have h1 := hc j hj
    have hbl : b < w.heap.size := World.block_lt_of_cell? w _ h1
    exact (hb.cell (p := ⟨b, o + j, none⟩) (Nat.lt_of_lt_of_le hbl hB)).trans h1
theorem SpansIn.far {w : World} {p : Option Addr} {L : List Sp} (h : SpansIn w p L) (a : Addr) (v : Value) (hne : ∀ b, p = some b → a.block ≠ b.block) : SpansIn (w.setCell a v) p L := by
  rcases h with h | ⟨b, o, rfl, hc⟩
  · exact .inl h
  · have hb := hne _ rfl
    refine .inr ⟨b, o, rfl, fun j hj => ?_⟩
    obtain ⟨h1, h2⟩ := hc j hj
    exact ⟨(World.cell?_setCell_other _ _ _ _ (fun e => by subst e; exact hb rfl)).trans h1, (World.cell?_setCell_other _ _ _ _ (fun e => by subst e; exact hb rfl)).trans h2⟩
theorem add_at (g j : Nat) : (⟨g, 0, none⟩ : Addr).add j = ⟨g, j, none⟩ := by
  unfold Addr.add
  by_cases h : j = 0 <;> simp [h]
theorem own_cells {w : World} {base : Nat} {E : TypeId} {s n : Nat} {v : Value} {xs : List Value} (h : w.ownsRow base E s v n xs) (hn : 0 < n) :
    ∃ g c, v = .slice (some ⟨g, 0, none⟩) n c ∧ base ≤ g ∧ g < w.heap.size ∧ n ≤ c ∧ ∀ j u, xs[j]? = some u → w.cell? ⟨g, j, none⟩ = some u := by
  obtain ⟨g, c, rfl, hg, hlt⟩ := h.form hn
  refine ⟨g, c, rfl, hg, hlt, ?_, fun j u hu => by have := h.cells (g := g) rfl j u hu; rwa [add_at] at this⟩
  rcases h.2 with ⟨h1, _⟩ | ⟨g', c', cur, h1, _, _, h2, _⟩
  · cases h1
  · injection h1 with _ _ h3; omega
theorem SpansIn.of_own {w : World} {base : Nat} {E : TypeId} {p : Option Addr} {n c : Nat} {L : List Sp} (h : w.ownsRow base E 2 (.slice p n c) L.length (spC L)) : SpansIn w p L := by
  by_cases e : L.length = 0
  · exact .inl (List.eq_nil_of_length_eq_zero e)
  · obtain ⟨g, c', hv, -, -, -, hc⟩ := own_cells h (by omega)
    injection hv with hv
    subst hv
    refine .inr ⟨g, 0, rfl, fun j hj => ?_⟩
    obtain ⟨a, b⟩ := spC_at L j hj
    rw [Nat.zero_add]
    exact ⟨hc _ _ a, hc _ _ b⟩
theorem EvsIn.of_own {w : World} {base : Nat} {E : TypeId} {p : Option Addr} {n c : Nat} {L : List Ev} (h : w.ownsRow base E 3 (.slice p n c) L.length (evC L)) : EvsIn w p L := by
  by_cases e : L.length = 0
  · exact .inl (List.eq_nil_of_length_eq_zero e)
  · obtain ⟨g, c', hv, -, -, -, hc⟩ := own_cells h (by omega)
    injection hv with hv
    subst hv
    refine .inr ⟨g, 0, rfl, fun j hj => ?_⟩
    obtain ⟨a, b, d⟩ := evC_at L j hj
    rw [Nat.zero_add]
    exact ⟨hc _ _ a, hc _ _ b, hc _ _ d⟩
theorem DaysIn.of_own {w : World} {base : Nat} {E : TypeId} {p : Option Addr} {n c : Nat} {L : List Int} (h : w.ownsRow base E 1 (.slice p n c) L.length (dyC L)) : DaysIn w p L := by
  by_cases e : L.length = 0
  · exact .inl (List.eq_nil_of_length_eq_zero e)
  · obtain ⟨g, c', hv, -, -, -, hc⟩ := own_cells h (by omega)
    injection hv with hv
    subst hv
    refine .inr ⟨g, 0, rfl, fun j hj => ?_⟩
    rw [Nat.zero_add]
    exact hc _ _ (dyC_at L j hj)
/-- A row of a call's own is a slice of that many. -/
theorem own_slice {w : World} {base : Nat} {E : TypeId} {s n : Nat} {v : Value} {xs : List Value} (h : w.ownsRow base E s v n xs) : ∃ p c, v = .slice p n c ∧ n ≤ c := by
  rcases h.2 with ⟨rfl, rfl⟩ | ⟨g, c, cur, rfl, _, _, h2, _⟩
  · exact ⟨none, 0, rfl, Nat.le_refl _⟩
  · exact ⟨_, _, rfl, h2⟩
theorem own_below {w w' : World} {base B : Nat} {E : TypeId} {s n : Nat} {v : Value} {xs : List Value} (h : w.ownsRow base E s v n xs) (hb : Below B w w') (hB : w.heap.size ≤ B) : w'.ownsRow base E s v n xs := by
  obtain ⟨h1, h2⟩ := h
  refine ⟨h1, ?_⟩
  rcases h2 with h2 | ⟨g, c, cur, rfl, hg, hh, h3⟩
  · exact .inl h2
  · have hlt : g < w.heap.size := by
      rcases Nat.lt_or_ge g w.heap.size with hlt | hge
      · exact hlt
      · rw [Array.getElem?_eq_none hge] at hh; cases hh
    exact .inr ⟨g, c, cur, rfl, hg, (hb.block g (by omega)).trans hh, h3⟩
theorem Below.drewsN {B : Nat} {w w' : World} (h : Below B w w') (n : Nat) : Below B w (w'.drewN n) := ⟨h.os, h.tape, h.output, h.size, h.block⟩
theorem info_of {P : Program} {t : TypeId} {z : Option Value} {s b : Nat} (h : (P.info? t).map (fun i => (i.zero, i.size, i.bytes)) = some (z, s, b)) : ∃ i, P.info? t = some i ∧ i.zero = z ∧ i.size = s ∧ i.bytes = b := by
  obtain ⟨i, hi, he⟩ := Option.map_eq_some_iff.1 h
  injection he with h1 h2
  injection h2 with h2 h3
  exact ⟨i, hi, h1, h2, h3⟩
theorem infoSpan : (Tryd.prog.info? 34).map (fun i => (i.zero, i.size, i.bytes)) = some (some (.agg #[.int .i64 0, .int .i64 0]), 2, 16) := by kernel_rfl
theorem infoEnd : (Tryd.prog.info? 85).map (fun i => (i.zero, i.size, i.bytes)) = some (some (.agg #[.int .i64 0, .int .i64 0, .int .i64 0]), 3, 24) := by kernel_rfl
theorem infoDay : (Tryd.prog.info? 25).map (fun i => (i.zero, i.size, i.bytes)) = some (some (.int .i64 0), 1, 8) := by kernel_rfl
/-- append of elements that were built for it. -/
theorem app_new {T E : TypeId} {z : Value} {s b : Nat} (hT : Tryd.prog.underlying T = some (.slice E)) (hI : (Tryd.prog.info? E).map (fun i => (i.zero, i.size, i.bytes)) = some (some z, s, b)) (hz : z.cells.size = s) (hs : 0 < s) (hb : b ≤ 64) (base : Nat) (ty : TypeId) (w : World) (v : Value) (n : Nat) (xs : List Value) (hown : w.ownsRow base E s v n xs)
    (m : Nat) (news : List Value) (hl : news.length = m * s) (h1 : ∀ u ∈ news, u.oneCell' = true) (hn : n + m ≤ 1000000) (hbase : base ≤ w.heap.size) :
    ∃ v' w', (Builtin.append_ #[T, T] ty #[v, .slice (some ⟨w.heap.size, 0, none⟩) m m]).run Tryd.prog (w.alloc (.cells news.toArray E)) = .ok v' w' ∧ w'.ownsRow base E s v' (n + m) (xs ++ news) ∧ (w.alloc (.cells news.toArray E)).grownBy w' v.ownBlock ∧ (v'.ownBlock = v.ownBlock ∨ v'.ownBlock = some (w.heap.size + 1)) := by
  obtain ⟨i, hi, hz0, hz1, hz2⟩ := info_of hI
  have hm : (n + m) * b ≤ 1000000 * 64 := Nat.mul_le_mul hn hb
  obtain ⟨v', w', h1, h2, h3, _, h4⟩ := run_append_own_at (P := Tryd.prog) (w.alloc (.cells news.toArray E)) base T ty E i z s b hT hi hz0 hz1 hz2 hz hs v n xs (hown.alloc _) ⟨w.heap.size, 0, none⟩ m m news hl
    (fun j u hu => by rw [add_at, World.cell?_alloc_new]; simpa using hu)
    h1 (by unfold maxLen; omega) (by omega) (by simp; omega)
  exact ⟨v', w', h1, h2, h3, by simpa using h4⟩
theorem app_arm {T E : TypeId} {z : Value} {s b : Nat} (hT : Tryd.prog.underlying T = some (.slice E)) (hI : (Tryd.prog.info? E).map (fun i => (i.zero, i.size, i.bytes)) = some (some z, s, b)) (hz : z.cells.size = s) (hs : 0 < s) (hb : b ≤ 64) (base : Nat) (w : World) (v : Value) (n : Nat) (xs : List Value) (hown : w.ownsRow base E s v n xs)
    (m : Nat) (news : List Value) (hl : news.length = m * s) (h1 : ∀ u ∈ news, u.oneCell' = true) (hn : n + m ≤ 1000000) (hbase : base ≤ w.heap.size)
    {ops : Array Oper} {rest : List Oper} {o : Oper} {a : Act} {Q : Exit → Act → World → Prop} (hgd : o.guard = none) (sO xO : Operand) (ho : o.op = .call { callee := .builtin .append, args := #[sO, xO], argTypes := #[T, T] }) (hv : a.eval sO = v) (hx : a.eval xO = .slice (some ⟨w.heap.size, 0, none⟩) m m)
    (h : ∀ v' w', w'.ownsRow base E s v' (n + m) (xs ++ news) → (w.alloc (.cells news.toArray E)).grownBy w' v.ownBlock → wpList Tryd.prog ops Q rest (a.put o.dst v') w') : wpList Tryd.prog ops Q (o :: rest) a (w.alloc (.cells news.toArray E)) := by
  obtain ⟨v', w', hr, h2, h3, -⟩ := app_new hT hI hz hs hb base o.type w v n xs hown m news hl h1 hn hbase
  exact Lib.wpList_append_run _ hgd sO xO T T ho v _ hv hx v' w' hr (h v' w' h2 h3)
theorem app_arm_at {T E : TypeId} {z : Value} {s b : Nat} (hT : Tryd.prog.underlying T = some (.slice E)) (hI : (Tryd.prog.info? E).map (fun i => (i.zero, i.size, i.bytes)) = some (some z, s, b)) (hz : z.cells.size = s) (hs : 0 < s) (hb : b ≤ 64) (base : Nat) (w : World) (v : Value) (n : Nat) (xs : List Value) (hown : w.ownsRow base E s v n xs)
    (m : Nat) (news : List Value) (hl : news.length = m * s) (h1 : ∀ u ∈ news, u.oneCell' = true) (hn : n + m ≤ 1000000) (hbase : base ≤ w.heap.size)
    {ops : Array Oper} {rest : List Oper} {o : Oper} {a : Act} {Q : Exit → Act → World → Prop} (hgd : o.guard = none) (sO xO : Operand) (ho : o.op = .call { callee := .builtin .append, args := #[sO, xO], argTypes := #[T, T] }) (hv : a.eval sO = v) (hx : a.eval xO = .slice (some ⟨w.heap.size, 0, none⟩) m m)
    (h : ∀ v' w', w'.ownsRow base E s v' (n + m) (xs ++ news) → (w.alloc (.cells news.toArray E)).grownBy w' v.ownBlock → (v'.ownBlock = v.ownBlock ∨ v'.ownBlock = some (w.heap.size + 1)) → wpList Tryd.prog ops Q rest (a.put o.dst v') w') : wpList Tryd.prog ops Q (o :: rest) a (w.alloc (.cells news.toArray E)) := by
  obtain ⟨v', w', hr, h2, h3, h4⟩ := app_new hT hI hz hs hb base o.type w v n xs hown m news hl h1 hn hbase
  exact Lib.wpList_append_run _ hgd sO xO T T ho v _ hv hx v' w' hr (h v' w' h2 h3 h4)
/-- append of a slice that lies somewhere, nil or not. -/
theorem app_src {T E : TypeId} {z : Value} {s b : Nat} (hT : Tryd.prog.underlying T = some (.slice E)) (hI : (Tryd.prog.info? E).map (fun i => (i.zero, i.size, i.bytes)) = some (some z, s, b)) (hz : z.cells.size = s) (hs : 0 < s) (hb : b ≤ 64) (base : Nat) (ty : TypeId) (w : World) (v : Value) (n : Nat) (xs : List Value) (hown : w.ownsRow base E s v n xs)
    (p : Option Addr) (m c : Nat) (news : List Value) (hl : news.length = m * s) (hp : p = none ∧ m = 0 ∧ c = 0 ∨ ∃ a, p = some a ∧ ∀ j u, news[j]? = some u → w.cell? (a.add j) = some u) (h1 : ∀ u ∈ news, u.oneCell' = true) (hn : n + m ≤ 1000000) (hbase : base ≤ w.heap.size) :
    ∃ v' w', (Builtin.append_ #[T, T] ty #[v, .slice p m c]).run Tryd.prog w = .ok v' w' ∧ w'.ownsRow base E s v' (n + m) (xs ++ news) ∧ w.grownBy w' v.ownBlock := by
  obtain ⟨i, hi, hz0, hz1, hz2⟩ := info_of hI
  have hm : (n + m) * b ≤ 1000000 * 64 := Nat.mul_le_mul hn hb
  rcases hp with ⟨rfl, rfl, rfl⟩ | ⟨a, rfl, hc⟩
  · have : news = [] := List.eq_nil_of_length_eq_zero (by omega)
    subst this
    exact ⟨v, w, run_append_owned_none (P := Tryd.prog) (w := w) base T ty E i s hT hi v n xs hown, by simpa using hown, World.grownBy.refl w _⟩
  · obtain ⟨v', w', h1, h2, h3, _⟩ := run_append_own (P := Tryd.prog) w base T ty E i z s b hT hi hz0 hz1 hz2 hz hs v n xs hown a m c news hl hc h1 (by unfold maxLen; omega) (by omega) hbase
    exact ⟨v', w', h1, h2, h3⟩

/-- Is a span empty? -/
def emB (s : Sp) : Bool := decide (s.2 ≤ s.1)
theorem isEmpty_any (a b : Int) (w : World) : Calls Tryd.prog 43 #[.agg #[.int .i64 a, .int .i64 b]] w fun e w' => e = .returned (.bool (emB (a, b))) ∧ Below w.heap.size w w' := by
  by_cases h : b ≤ a
  · rw [show emB (a, b) = true by simp [emB, h]]
    go_enter Tryd.func43, Tryd.ntmps43
    go_wp2
    go_ret
    exact ⟨rfl, (Below.refl _ _).alloc (Nat.le_refl _) _⟩
  · rw [show emB (a, b) = false by simp [emB, h]]
    go_enter Tryd.func43, Tryd.ntmps43
    go_wp2
    go_ret
    exact ⟨rfl, (Below.refl _ _).alloc (Nat.le_refl _) _⟩

theorem endsL_yes {x y : Int} (h : x < y) : endsL [(x, y)] = [(x, 1, 0), (y, -1, 0)] := by simp only [endsL, List.append_nil]; rw [if_neg (by show ¬ y ≤ x; omega)]
theorem endsL_none {x y : Int} (h : y ≤ x) : endsL [(x, y)] = [] := by simp only [endsL, List.append_nil]; rw [if_pos h]
/-- A call that returns ends of its own. -/
def EvOwn (E : List Ev) (w : World) (e : Ending) (w' : World) : Prop := ∃ v, e = .returned v ∧ w'.ownsRow w.heap.size 85 3 v E.length (evC E) ∧ Below w.heap.size w w'

theorem take_next {α : Type} (L : List α) (z : α) {k : Nat} (h : k < L.length) : L.take (k + 1) = L.take k ++ [L.getD k z] := by
  rw [List.take_succ_eq_append_getElem h, getD_at L z h]

set_option maxHeartbeats 1000000 in
set_option maxRecDepth 100000 in
theorem leftEnds_any (p : Option Addr) (c : Nat) (L : List Sp) (w : World) (hn : L.length ≤ 100000) (h : SpansIn w p L) :
    Calls Tryd.prog 22 #[.slice p L.length c] w (EvOwn (endsL L) w) := by
  have HI := Lib.hid h
  clear h
  obtain ⟨n, hnl⟩ : ∃ n, n = L.length := ⟨_, rfl⟩
  rw [← hnl] at hn ⊢
  have HN := Lib.hid hnl
  clear hnl
  go_enter Tryd.func22, Tryd.ntmps22
  go_wp2
  go_loopw [3, 5, 8] (fun v _ kv wr => ∃ (k : Nat) (q : Value) (m : Nat), k ≤ n ∧ kv = .int .i64 k ∧ q = v ∧ Hid (m = (endsL (L.take k)).length) ∧ Hid (wr.ownsRow w.heap.size 85 3 q m (evC (endsL (L.take k)))) ∧ Below w.heap.size w wr) (fun _ _ kv _ => n - (RowKit.intOf kv).toNat)
  case atStart => exact ⟨0, _, 0, by omega, rfl, rfl, Lib.hid rfl, Lib.hid (World.ownsRow_nil _ _ _ _), Below.refl _ _⟩
  case round =>
    obtain ⟨k, q, m, hk, rfl, rfl, HM, HO, hb⟩ := hrel
    by_cases hlt : k < n
    · have hlt' : k < L.length := by rw [← HN.out]; exact hlt
      have htk := take_next L (0, 0) hlt'
      rcases HI.out with h | ⟨b, o, rfl, hc⟩
      · rw [h] at hlt'; simp at hlt'
      obtain ⟨c1, c2⟩ := hc k hlt'
      have hbl : b < w.heap.size := World.block_lt_of_cell? w _ c1
      have e1 := (hb.cell (p := ⟨b, o + k * 2, none⟩) hbl).trans c1
      have e2 := (hb.cell (p := ⟨b, o + k * 2 + 1, none⟩) hbl).trans c2
      have i1 : (k : Int) < (n : Int) := by omega
      have hm : m ≤ 2 * k := by
        have := endsL_len (L.take k)
        rw [HM.out]
        simp at this
        omega
      have HT := Lib.hid htk
      clear c1 c2 hc HI htk hlt'
      generalize L.getD k (0, 0) = s at e1 e2 HT
      obtain ⟨x, y⟩ := s
      dsimp only at e1 e2
      obtain ⟨G, hG⟩ : ∃ G, G = wr.heap.size := ⟨_, rfl⟩
      have hGw : w.heap.size ≤ G := by rw [hG]; exact hb.size
      have hb1 := hb.alloc hb.size (.cells #[.int .i64 x, .int .i64 y] 34)
      have HO1 := Lib.hid (HO.out.alloc (.cells #[.int .i64 x, .int .i64 y] 34))
      have x1 : (wr.alloc (.cells #[.int .i64 x, .int .i64 y] 34)).cell? ⟨wr.heap.size, 0, none⟩ = some (.int .i64 x) := by rw [World.cell?_alloc_new]; rfl
      have x2 : (wr.alloc (.cells #[.int .i64 x, .int .i64 y] 34)).cell? ⟨wr.heap.size, 1, none⟩ = some (.int .i64 y) := by rw [World.cell?_alloc_new]; rfl
      have hz1 : (wr.alloc (.cells #[.int .i64 x, .int .i64 y] 34)).heap.size = wr.heap.size + 1 := by simp
      clear HO hb
      cases he : emB (x, y)
      · have hne : ¬ y ≤ x := by simpa [emB] using he
        go_wp2_with fail
        refine (isEmpty_any _ _ _).mono ?_
        rintro e w2 ⟨rfl, hb2⟩
        rw [he]
        have y1 := (hb2.cell (p := ⟨wr.heap.size, 0, none⟩) (by show wr.heap.size < _; omega)).trans x1
        have y2 := (hb2.cell (p := ⟨wr.heap.size, 1, none⟩) (by show wr.heap.size < _; omega)).trans x2
        have hb3 := hb1.trans (hb2.mono (by omega))
        have HO2 := own_below HO1.out hb2 (Nat.le_refl _)
        obtain ⟨v', w3, hr, ho, hg, -⟩ := app_new Tryd.underlying63 infoEnd rfl (by omega) (by omega) w.heap.size 63 w2 _ m _ HO2 2 [.int .i64 x, .int .i64 1, .int .i64 0, .int .i64 y, .int .i64 (-1), .int .i64 0] rfl (fun u hu => by simp at hu; rcases hu with rfl | rfl | rfl | rfl | rfl | rfl <;> rfl) (by omega) hb3.size
        have hb4 : Below w.heap.size w w3 := (hb3.alloc hb3.size _).grown hg (by simp; have := hb3.size; omega) (fun k hk => (HO2.lt k hk).1)
        have HO3 := Lib.hid ho
        have R1 := Lib.hid hr
        clear x1 x2 hz1 HO1 HO2 hb1 hb2 hb3 hg ho hG hGw hr
        go_wp2_with (at_builtin; refine Lib.wpList_append_run _ rfl _ _ 63 63 rfl _ _ rfl rfl v' w3 (R1.out) ?_)
        refine ⟨⟨k + 1, v', m + 2, by omega, by go_num, rfl, Lib.hid ?_, Lib.hid ?_, hb4⟩, by simp [RowKit.intOf]; omega⟩
        · rw [HT.out, endsL_app, List.length_append, ← HM.out, endsL_yes (by omega)]; rfl
        · have h := HO3.out
          rw [HT.out, endsL_app, evC_app, endsL_yes (by omega)]
          exact h
      · have hne : y ≤ x := by simpa [emB] using he
        go_wp2_with fail
        refine (isEmpty_any _ _ _).mono ?_
        rintro e w2 ⟨rfl, hb2⟩
        rw [he]
        have hb3 := hb1.trans (hb2.mono (by omega))
        have HO2 := Lib.hid (own_below HO1.out hb2 (Nat.le_refl _))
        clear x1 x2 hz1 HO1 hb1 hb2 hG hGw
        go_wp2
        refine ⟨⟨k + 1, q, m, by omega, by go_num, rfl, Lib.hid ?_, Lib.hid ?_, hb3⟩, by simp [RowKit.intOf]; omega⟩
        · rw [HT.out, endsL_app, List.length_append, ← HM.out, endsL_none (by omega)]; rfl
        · have h := HO2.out
          rw [HT.out, endsL_app, evC_app, endsL_none (by omega)]
          simpa [evC] using h
    · obtain rfl : n = k := by omega
      have hal : L.take n = L := by rw [HN.out]; exact List.take_length
      rw [hal] at HM HO
      have HA := HO.out
      rw [HM.out] at HA
      have HA' := Lib.hid HA
      clear HM HO HA hal
      go_wp2
      go_ret
      exact ⟨_, rfl, HA'.out, hb⟩


open Go Go.RowKit Go.Proofs

theorem spC_set : ∀ (K : List Sp) (l : Sp) (y : Int), (spC (K ++ [l])).set (K.length * 2 + 1) (.int .i64 y) = spC (K ++ [(l.1, y)])
  | [], l, y => rfl
  | s :: r, l, y => by
    have h := spC_set r l y
    show ([Value.int .i64 s.1, .int .i64 s.2] ++ spC (r ++ [l])).set _ _ = [Value.int .i64 s.1, .int .i64 s.2] ++ spC (r ++ [(l.1, y)])
    rw [← h, show (s :: r).length * 2 + 1 = (r.length * 2 + 1) + 1 + 1 by simp; omega]
    rfl
/-- Spans of a call's own, and what else it left. -/
def SpOwn (base B : Nat) (K : List Sp) (w : World) (e : Ending) (w' : World) : Prop := ∃ v, e = .returned v ∧ w'.ownsRow base 34 2 v K.length (spC K) ∧ Below B w w'

set_option maxHeartbeats 1000000 in
set_option maxRecDepth 100000 in
theorem join_any (base : Nat) (v : Value) (K : List Sp) (x y : Int) (w : World) (hn : K.length ≤ 100000) (ho : w.ownsRow base 34 2 v K.length (spC K)) (hbase : base ≤ w.heap.size) :
    Calls Tryd.prog 42 #[v, .agg #[.int .i64 x, .int .i64 y]] w (SpOwn base base (joinL K (x, y)) w) := by
  have hb1 := (Below.refl base w).alloc hbase (.cells #[.int .i64 x, .int .i64 y] 34)
  have HO1 := Lib.hid (ho.alloc (.cells #[.int .i64 x, .int .i64 y] 34))
  have x1 : (w.alloc (.cells #[.int .i64 x, .int .i64 y] 34)).cell? ⟨w.heap.size, 0, none⟩ = some (.int .i64 x) := by rw [World.cell?_alloc_new]; rfl
  have x2 : (w.alloc (.cells #[.int .i64 x, .int .i64 y] 34)).cell? ⟨w.heap.size, 1, none⟩ = some (.int .i64 y) := by rw [World.cell?_alloc_new]; rfl
  have hz1 : (w.alloc (.cells #[.int .i64 x, .int .i64 y] 34)).heap.size = w.heap.size + 1 := by simp
  clear ho
  cases he : emB (x, y)
  case true =>
    have hne : y ≤ x := by simpa [emB] using he
    rw [joinL_no (s := (x, y)) hne]
    go_enter Tryd.func42, Tryd.ntmps42
    go_wp2_with fail
    refine (isEmpty_any _ _ _).mono ?_
    rintro e w2 ⟨rfl, hb2⟩
    rw [he]
    have hb3 := hb1.trans (hb2.mono (by omega))
    have HO2 := Lib.hid (own_below HO1.out hb2 (Nat.le_refl _))
    clear x1 x2 hz1 HO1 hb1 hb2
    go_wp2
    go_ret
    exact ⟨_, rfl, HO2.out, hb3⟩
  case false =>
    have hne : x < y := by simpa [emB] using he
    rcases snoc_of K with rfl | ⟨K', l, rfl⟩
    · rw [joinL_nil (s := (x, y)) (by show ¬ y ≤ x; omega)]
      obtain ⟨p, c, rfl, -⟩ := own_slice HO1.out
      simp only [List.length_nil]
      go_enter Tryd.func42, Tryd.ntmps42
      go_wp2_with fail
      refine (isEmpty_any _ _ _).mono ?_
      rintro e w2 ⟨rfl, hb2⟩
      rw [he]
      have y1 := (hb2.cell (p := ⟨w.heap.size, 0, none⟩) (by show w.heap.size < _; omega)).trans x1
      have y2 := (hb2.cell (p := ⟨w.heap.size, 1, none⟩) (by show w.heap.size < _; omega)).trans x2
      have hb3 := hb1.trans (hb2.mono (by omega))
      have HO2 := Lib.hid (own_below HO1.out hb2 (Nat.le_refl _))
      clear x1 x2 hz1 HO1 hb1 hb2
      go_wp2
      have hB3 := Nat.le_trans hbase hb3.size
      go_quiet (fail)
      go_wp2_with (at_builtin; refine app_arm Tryd.underlying48 infoSpan rfl (by omega) (by omega) base (w2.drewN nq) _ 0 [] HO2.out 1 [.int .i64 x, .int .i64 y] rfl (spC_one (L := [(x, y)])) (by omega) hB3 rfl _ _ rfl rfl rfl ?_; intro v' w3 ho hg)
      go_ret
      exact ⟨v', rfl, ho, ((Below.drewsN hb3 _).alloc hB3 _).grown hg (by simp; omega) (fun k hk => (HO2.out.lt k hk).1)⟩
    · have hlen : (K' ++ [l]).length = K'.length + 1 := by simp
      rw [hlen] at hn HO1
      obtain ⟨g, c, rfl, hg0, hg1, hgc, hcell⟩ := own_cells HO1.out (by omega)
      have q2 : (w.alloc (.cells #[.int .i64 x, .int .i64 y] 34)).cell? ⟨g, K'.length * 2 + 1, none⟩ = some (.int .i64 l.2) := hcell _ _ (by
        have := (spC_at (K' ++ [l]) K'.length (by simp)).2
        simpa using this)
      have hfz := HO1.out.frozenAt (K'.length * 2 + 1)
      clear hcell
      obtain ⟨n, hN⟩ : ∃ n, n = K'.length := ⟨_, rfl⟩
      rw [← hN] at hn HO1 q2 hfz ⊢
      have HN := Lib.hid hN
      clear hN hlen
      obtain ⟨lx, ly⟩ := l
      dsimp only at q2
      have i0 : (0 : Int) < ((n + 1 : Nat) : Int) := by omega
      have i1 : (((n + 1 : Nat) : Int) - 1) = (n : Int) := by omega
      by_cases e : ly = x
      · rw [joinL_on (s := (x, y)) (l := (lx, ly)) (by show ¬ y ≤ x; omega) e]
        have eb : (ly == x) = true := by simp [e]
        subst e
        go_enter Tryd.func42, Tryd.ntmps42
        go_wp2_with fail
        refine (isEmpty_any _ _ _).mono ?_
        rintro e w2 ⟨rfl, hb2⟩
        rw [he]
        have y1 := (hb2.cell (p := ⟨w.heap.size, 0, none⟩) (by show w.heap.size < _; omega)).trans x1
        have y2 := (hb2.cell (p := ⟨w.heap.size, 1, none⟩) (by show w.heap.size < _; omega)).trans x2
        have q3 := (hb2.cell (p := ⟨g, n * 2 + 1, none⟩) hg1).trans q2
        have f3 := (hb2.frozen (p := ⟨g, n * 2 + 1, none⟩) hg1).trans hfz
        have hb3 := hb1.trans (hb2.mono (by omega))
        have HO2 := Lib.hid (own_below HO1.out hb2 (Nat.le_refl _))
        clear x1 x2 hz1 HO1 hb1 hb2 q2 hfz
        go_wp2
        go_quiet (fail)
        go_wp2
        go_ret
        obtain ⟨hst, hgr⟩ := World.ownsRow.stored (w := w2.drewN nq) HO2.out (n * 2 + 1) (.int .i64 y)
        refine ⟨_, rfl, ?_, (Below.drewsN hb3 nq).grown hgr (by show base ≤ w2.heap.size; have := hb3.size; omega) (fun k hk => by injection hk with hk; omega)⟩
        rw [HN.out] at hst ⊢
        rw [spC_set] at hst
        simpa using hst
      · have eb : (ly == x) = false := by simp [e]
        have ee : ¬ ly = x := e
        rw [joinL_off (s := (x, y)) (l := (lx, ly)) (by show ¬ y ≤ x; omega) e]
        clear e
        go_enter Tryd.func42, Tryd.ntmps42
        go_wp2_with fail
        refine (isEmpty_any _ _ _).mono ?_
        rintro e w2 ⟨rfl, hb2⟩
        rw [he]
        have y1 := (hb2.cell (p := ⟨w.heap.size, 0, none⟩) (by show w.heap.size < _; omega)).trans x1
        have y2 := (hb2.cell (p := ⟨w.heap.size, 1, none⟩) (by show w.heap.size < _; omega)).trans x2
        have q3 := (hb2.cell (p := ⟨g, n * 2 + 1, none⟩) hg1).trans q2
        have hb3 := hb1.trans (hb2.mono (by omega))
        have HO2 := Lib.hid (own_below HO1.out hb2 (Nat.le_refl _))
        have hB3 := Nat.le_trans hbase hb3.size
        clear x1 x2 hz1 HO1 hb1 hb2 q2 hfz
        go_wp2
        go_quiet (fail)
        go_wp2_with (at_builtin; refine app_arm Tryd.underlying48 infoSpan rfl (by omega) (by omega) base (w2.drewN nq) _ (n + 1) _ HO2.out 1 [.int .i64 x, .int .i64 y] rfl (spC_one (L := [(x, y)])) (by omega) hB3 rfl _ _ rfl rfl rfl ?_; intro v' w3 ho hg)
        go_ret
        refine ⟨v', rfl, ?_, ((Below.drewsN hb3 nq).alloc hB3 _).grown hg (by simp; omega) (fun k hk => (HO2.out.lt k hk).1)⟩
        rw [spC_app, List.length_append, List.length_append, ← HN.out]
        exact ho

end Go.Proofs.YtogdiiengbmiiaaDoor.Sp
