/-
  What is proved: plain facts on the document's own answers: over, and the list of weeks. Conditions: right entries, right limits.
-/
import Derived.Test.YtlfflnfodnegnaaSkN
namespace Go.Proofs.Ytlfflnfodnegnaa

/-- The document's over: what was left ahead of the last one of its week, and what is left of that. -/
def lastL (D : Int) (f : Nat → En) (m : Int) : Nat → Int
  | 0 => 0
  | k + 1 => if mon (f k).1 = m then lft D (f k) else lastL D f m k
def aheadL (D : Int) (f : Nat → En) (m : Int) : Nat → Int
  | 0 => 0
  | k + 1 => if mon (f k).1 = m then aheadL D f m k + lastL D f m k else aheadL D f m k
theorem lastL_succ (D : Int) (f : Nat → En) (m : Int) (k : Nat) : lastL D f m (k + 1) = if mon (f k).1 = m then lft D (f k) else lastL D f m k := rfl
theorem aheadL_succ (D : Int) (f : Nat → En) (m : Int) (k : Nat) : aheadL D f m (k + 1) = if mon (f k).1 = m then aheadL D f m k + lastL D f m k else aheadL D f m k := rfl
theorem ahead_is (D W : Int) (f : Nat → En) (m : Int) : ∀ k, aheadL D f m k + lastL D f m k = (stt D W f k m).1
  | 0 => rfl
  | k + 1 => by
    have ih := ahead_is D W f m k
    rw [stt_succ, aheadL_succ, lastL_succ]
    unfold put
    by_cases e : mon (f k).1 = m
    · rw [if_pos e, if_pos e, if_pos e.symm]
      simp only
      omega
    · rw [if_neg e, if_neg e, if_neg (fun h => e h.symm)]
      exact ih
theorem ahead_at (D W : Int) (f : Nat → En) (i : Nat) : aheadL D f (mon (f i).1) (i + 1) = (stt D W f i (mon (f i).1)).1 ∧ lastL D f (mon (f i).1) (i + 1) = lft D (f i) := by
  refine ⟨?_, ?_⟩
  · show (if mon (f i).1 = mon (f i).1 then aheadL D f (mon (f i).1) i + lastL D f (mon (f i).1) i else aheadL D f (mon (f i).1) i) = _
    rw [if_pos rfl]; exact ahead_is D W f _ i
  · show (if mon (f i).1 = mon (f i).1 then lft D (f i) else lastL D f (mon (f i).1) i) = _
    rw [if_pos rfl]
/-- What the document's over answers. -/
def overV (D W : Int) (f : Nat → En) (i : Nat) : Int := (f i).2.1 - min (max (W - aheadL D f (mon (f i).1) (i + 1)) 0) (lastL D f (mon (f i).1) (i + 1))
section
variable {f : Nat → En} {n : Nat} {D W : Int}
theorem over_is (h : Rt f n) (hL : Lim D W) {i : Nat} (hi : i < n) : overV D W f i = (hrI D W f i).2.1 ∧ (f i).2.1 - overV D W f i = (hrI D W f i).1 := by
  obtain ⟨-, h0, -, -, -⟩ := h.1 i hi
  obtain ⟨e1, e2⟩ := ahead_at D W f i
  have hl := lft_bd hL.1 h0
  have hA := left_pos h hL (Nat.le_of_lt hi) (mon (f i).1)
  have p := plain_is (W := W) (A := (stt D W f i (mon (f i).1)).1) hl.1
  have b := (hrs_bd (W := W) (A := (stt D W f i (mon (f i).1)).1) hL.1 h0).2.2.1
  unfold overV hrI
  rw [e1, e2]
  unfold mn at p
  omega
theorem lastL_bd (h : Rt f n) (hD : 0 ≤ D) (m : Int) : ∀ k, k ≤ n → 0 ≤ lastL D f m k ∧ lastL D f m k ≤ 1440
  | 0, _ => by simp [lastL]
  | k + 1, hk => by
    have ih := lastL_bd h hD m k (by omega)
    obtain ⟨-, h0, h1, -, -⟩ := h.1 k (by omega)
    have hl := lft_bd hD h0
    unfold lastL
    split <;> omega
theorem aheadL_bd (h : Rt f n) (hD : 0 ≤ D) (m : Int) : ∀ k, k ≤ n → 0 ≤ aheadL D f m k ∧ aheadL D f m k ≤ 1440 * k
  | 0, _ => by simp [aheadL]
  | k + 1, hk => by
    have ih := aheadL_bd h hD m k (by omega)
    have il := lastL_bd h hD m k (by omega)
    unfold aheadL
    split <;> omega
/-- A week's own sums. -/
theorem week_sum (h : Rt f n) {m : Int} (hm : m = mon m) (hin : ∀ i, i < n → (m ≤ (f i).1 ∧ (f i).1 < m + 7 ↔ mon (f i).1 = m)) : ∀ i, i ≤ n → sumP D W m (m + 7) f i = (stt D W f i m).2
  | 0, _ => rfl
  | i + 1, hi => by
    have ih := week_sum h hm hin i (by omega)
    have hk := hin i (by omega)
    rw [sumP_succ, stt_succ]
    unfold put hrI
    by_cases e : mon (f i).1 = m
    · rw [if_pos (hk.2 e), if_pos e.symm, ih, e]
    · rw [if_neg (fun h => e (hk.1 h)), if_neg (fun h => e h.symm), ih]
theorem week_in (h : Rt f n) {i j : Nat} (hi : i < n) (hj : j < n) : mon (f j).1 ≤ (f i).1 ∧ (f i).1 < mon (f j).1 + 7 ↔ mon (f i).1 = mon (f j).1 := by
  obtain ⟨a, -⟩ := h.1 i hi
  obtain ⟨b, -⟩ := h.1 j hj
  have ha := inB_iff.1 a
  have hb := inB_iff.1 b
  rw [mon_at a, mon_at b]
  omega
end
/-- The weeks that have an entry, in the entries' order, each once. -/
def newW (f : Nat → En) (k : Nat) : Bool := k == 0 || mon (f (k - 1)).1 != mon (f k).1
def monsP (f : Nat → En) : Nat → List Int
  | 0 => []
  | k + 1 => if newW f k = true then monsP f k ++ [mon (f k).1] else monsP f k
theorem monsP_mem {f : Nat → En} {n : Nat} (h : Rt f n) : ∀ k, k ≤ n → (∀ m, m ∈ monsP f k ↔ ∃ i, i < k ∧ mon (f i).1 = m) ∧ (monsP f k).Pairwise (· < ·)
  | 0, _ => ⟨fun m => Iff.intro (fun h => by cases h) (fun h => by obtain ⟨i, h1, _⟩ := h; omega), List.Pairwise.nil⟩
  | k + 1, hk => by
    obtain ⟨ih1, ih2⟩ := monsP_mem h k (by omega)
    have hkn := (h.1 k (by omega)).1
    have mono : ∀ i, i < k → mon (f i).1 ≤ mon (f k).1 := fun i hi => mon_mono (h.1 i (by omega)).1 hkn (Int.le_of_lt (h.lt hi (by omega)))
    unfold monsP
    by_cases hw : newW f k = true
    · rw [if_pos hw]
      have hlt : ∀ m, m ∈ monsP f k → m < mon (f k).1 := fun m hm => by
        obtain ⟨i, hi, rfl⟩ := (ih1 m).1 hm
        have hk0 : 0 < k := by omega
        have hne : mon (f (k - 1)).1 ≠ mon (f k).1 := by
          unfold newW at hw
          rw [Bool.or_eq_true] at hw
          rcases hw with hw | hw
          · simp at hw; omega
          · simpa using hw
        have h1 := mono (k - 1) (by omega)
        have h2 : mon (f i).1 ≤ mon (f (k - 1)).1 := by
          by_cases e : i = k - 1
          · rw [e]; exact Int.le_refl _
          · exact mon_mono (h.1 i (by omega)).1 (h.1 (k - 1) (by omega)).1 (Int.le_of_lt (h.lt (by omega) (by omega)))
        omega
      refine ⟨fun m => ?_, ?_⟩
      · rw [List.mem_append, List.mem_singleton, ih1]
        constructor
        · rintro (⟨i, h1, h2⟩ | h1)
          · exact ⟨i, by omega, h2⟩
          · exact ⟨k, by omega, h1.symm⟩
        · rintro ⟨i, h1, h2⟩
          by_cases e : i = k
          · right; rw [← h2, e]
          · left; exact ⟨i, by omega, h2⟩
      · rw [List.pairwise_append]
        refine ⟨ih2, by simp, fun a ha b hb => ?_⟩
        rw [List.mem_singleton] at hb
        rw [hb]; exact hlt a ha
    · rw [if_neg hw]
      refine ⟨fun m => ?_, ih2⟩
      rw [ih1]
      constructor
      · rintro ⟨i, h1, h2⟩
        exact ⟨i, by omega, h2⟩
      · rintro ⟨i, h1, h2⟩
        by_cases e : i = k
        · subst e
          have hk0 : i ≠ 0 := fun h0 => hw (by rw [h0]; rfl)
          have hne : mon (f (i - 1)).1 = mon (f i).1 := by
            refine Classical.byContradiction fun hc => hw ?_
            unfold newW
            rw [Bool.or_eq_true]
            exact .inr (by simpa using hc)
          exact ⟨i - 1, by omega, hne.trans h2⟩
        · exact ⟨i, by omega, h2⟩
/-- Two rising lists with the same members are one. -/
theorem rise_one : ∀ {K L : List Int}, K.Pairwise (· < ·) → L.Pairwise (· < ·) → (∀ m, m ∈ K ↔ m ∈ L) → K = L
  | [], [], _, _, _ => rfl
  | [], l :: L, _, _, h => absurd ((h l).2 (List.mem_cons_self ..)) (by simp)
  | k :: K, [], _, _, h => absurd ((h k).1 (List.mem_cons_self ..)) (by simp)
  | k :: K, l :: L, hK, hL, h => by
    obtain ⟨k1, k2⟩ := List.pairwise_cons.1 hK
    obtain ⟨l1, l2⟩ := List.pairwise_cons.1 hL
    have e : k = l := by
      rcases List.mem_cons.1 ((h k).1 (List.mem_cons_self ..)) with h1 | h1
      · exact h1
      · rcases List.mem_cons.1 ((h l).2 (List.mem_cons_self ..)) with h2 | h2
        · exact h2.symm
        · have := l1 k h1; have := k1 l h2; omega
    subst e
    rw [rise_one k2 l2 fun m => ?_]
    constructor
    · intro hm
      rcases List.mem_cons.1 ((h m).1 (List.mem_cons_of_mem _ hm)) with h1 | h1
      · have := k1 m hm; omega
      · exact h1
    · intro hm
      rcases List.mem_cons.1 ((h m).2 (List.mem_cons_of_mem _ hm)) with h1 | h1
      · have := l1 m hm; omega
      · exact h1
theorem rise_pw {E : List Int} (h : ∀ i, i + 1 < E.length → E.getD i 0 < E.getD (i + 1) 0) : E.Pairwise (· < ·) := by
  have key : ∀ d i, i + d + 1 < E.length → E.getD i 0 < E.getD (i + d + 1) 0 := fun d => by
    induction d with
    | zero => intro i hi; exact h i hi
    | succ d ih =>
      intro i hi
      have a := ih i (by omega)
      have b := h (i + d + 1) (by omega)
      rw [show i + (d + 1) + 1 = i + d + 1 + 1 by omega]
      omega
  rw [List.pairwise_iff_getElem]
  intro i j hi hj hij
  have := key (j - i - 1) i (by omega)
  rw [show i + (j - i - 1) + 1 = j by omega] at this
  simpa [List.getD, hi, hj] using this

end Go.Proofs.Ytlfflnfodnegnaa
