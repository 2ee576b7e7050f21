/-
  What is proved: plain facts on what pieces come to: one that is cut anywhere comes to the same; one of all days, by its whole part, is the period's amount. Conditions: as there.
-/
import Derived.Test.YtamglmenljgbdaaPrMe
namespace Go.Proofs.Ytamglmenljgbdaa
open Go Go.RowKit Go.Proofs

theorem anyC_two (D : List Sp.Sp) (t u s : Sp.Sp) : anyC (D ++ [t] ++ [u]) s = (anyC D s || crossB s t || crossB s u) := by rw [anyC_app, anyC_app]
/-- With fewer days ahead that cross, the same pieces come to the same. -/
theorem sal_less {a b i n : Int} : ∀ (L : List Pc) (D D' : List Sp.Sp) (S : Int), (∀ s : Sp.Sp, s.1 < s.2 → anyC D s = false → anyC D' s = false) → (salR a b i n L D S).2 = 0 → salR a b i n L D' S = salR a b i n L D S
  | [], _, _, _, _, _ => rfl
  | q :: r, D, D', S, h, he => by
    rw [salR_cons] at he ⊢
    rw [salR_cons]
    by_cases hs : stepE a b i n D S q = 0
    · rw [if_pos hs] at he ⊢
      obtain ⟨g1, g2, g3, g4, g5, g6⟩ := step_zero hs
      obtain ⟨s1, s2⟩ := step_ok (D := D') g1 (h q.1 g1.1 g2) g3 g4 g5
      rw [if_pos s1]
      exact sal_less r (D ++ [q.1]) (D' ++ [q.1]) _ (fun s hlt hc => by
        rw [anyC_app, Bool.or_eq_false_iff] at hc ⊢
        exact ⟨h s hlt hc.1, hc.2⟩) he
    · rw [if_neg hs] at he; exact absurd he hs
theorem salR_pre {a b i n : Int} : ∀ (K L : List Pc) (D : List Sp.Sp) (S : Int), (salR a b i n K D S).2 = 0 → salR a b i n (K ++ L) D S = salR a b i n L (D ++ dys K) (salR a b i n K D S).1
  | [], L, D, S, _ => by simp [dys, salR]
  | q :: r, L, D, S, h => by
    have e : (q :: r) ++ L = q :: (r ++ L) := rfl
    rw [salR_cons] at h
    rw [e, salR_cons, salR_cons]
    by_cases he : stepE a b i n D S q = 0
    · rw [if_pos he] at h ⊢
      rw [if_pos he, salR_pre r L _ _ h]
      simp [dys]
    · rw [if_neg he] at h; exact absurd h he
/-- A piece that is cut in two. -/
theorem sal_two {a b i n x z Y P m : Int} {r : List Pc} {D : List Sp.Sp} {S : Int} (h1 : x < m) (h2 : m < z) (he : (salR a b i n (((x, z), Y, P) :: r) D S).2 = 0) : salR a b i n (((x, m), Y, P) :: ((m, z), Y, P) :: r) D S = salR a b i n (((x, z), Y, P) :: r) D S := by
  rw [salR_cons] at he
  by_cases hs : stepE a b i n D S ((x, z), Y, P) = 0
  · rw [if_pos hs] at he
    obtain ⟨⟨o1, o2, o3, o4⟩, g2, g3, g4, g5, g6⟩ := step_zero hs
    dsimp only at o1 o2 o3 g2 g3 g5 g6
    have hf := whole_fit i n Y P
    have hA := amt_is (a := a) (b := b) (x := x) (z := z) g3
    have hA1 := amt_is (a := a) (b := b) (x := x) (z := m) g3
    have hA2 := amt_is (a := a) (b := b) (x := m) (z := z) g3
    obtain ⟨u1, u2⟩ := up_step (wholeV i n Y P) (x - a) (m - a) (b - a) (by omega) (by omega) (by omega) (by omega)
    obtain ⟨u3, u4⟩ := up_step (wholeV i n Y P) (m - a) (z - a) (b - a) (by omega) (by omega) (by omega) (by omega)
    have hS := fit_iff.1 g4
    have hSA := fit_iff.1 g5
    have hc1 : anyC D (x, m) = false := by
      unfold anyC at g2 ⊢
      rw [List.any_eq_false] at g2 ⊢
      intro t ht hcr
      refine g2 t ht ?_
      unfold crossB at hcr ⊢
      simp only [decide_eq_true_eq] at hcr ⊢
      omega
    have hc2 : anyC (D ++ [(x, m)]) (m, z) = false := by
      rw [anyC_app, Bool.or_eq_false_iff]
      refine ⟨?_, by unfold crossB; simp⟩
      unfold anyC at g2 ⊢
      rw [List.any_eq_false] at g2 ⊢
      intro t ht hcr
      refine g2 t ht ?_
      unfold crossB at hcr ⊢
      simp only [decide_eq_true_eq] at hcr ⊢
      omega
    have hm1 : Sh.fitB (S + amtV a b i n x m Y P) = true := by
      apply fit_iff.2
      rw [hA] at hSA
      rw [hA1]
      by_cases ht : wholeV i n Y P < 0
      · have := u2 ht; have := u4 ht; omega
      · have := u1 (by omega); have := u3 (by omega); omega
    obtain ⟨s1, s2⟩ := step_ok (a := a) (b := b) (i := i) (n := n) (D := D) (S := S) (q := ((x, m), Y, P)) ⟨h1, o2, by dsimp only; omega, o4⟩ hc1 g3 g4 hm1
    dsimp only at s2
    have hm2 : S + amtV a b i n x m Y P + amtV a b i n m z Y P = S + amtV a b i n x z Y P := by rw [hA, hA1, hA2]; omega
    obtain ⟨s3, s4⟩ := step_ok (a := a) (b := b) (i := i) (n := n) (D := D ++ [(x, m)]) (S := S + amtV a b i n x m Y P) (q := ((m, z), Y, P)) ⟨h2, by dsimp only; omega, o3, o4⟩ hc2 g3 hm1 (by dsimp only; rw [hm2]; exact g5)
    dsimp only at s4
    rw [salR_cons, if_pos s1, s2, salR_cons, if_pos s3, s4, hm2, salR_cons, if_pos hs, ← g6]
    refine sal_less r _ _ _ (fun s hlt hc => ?_) he
    rw [anyC_two]
    rw [anyC_app, Bool.or_eq_false_iff] at hc
    rw [hc.1]
    have h3 := hc.2
    unfold crossB at h3 ⊢
    simp only [decide_eq_false_iff_not] at h3
    simp only [Bool.false_or, Bool.or_eq_false_iff, decide_eq_false_iff_not]
    omega
  · rw [if_neg hs] at he; exact absurd he hs
theorem sal_cut {a b i n x z Y P m : Int} {K r : List Pc} (hl : (K ++ ((x, z), Y, P) :: r).length ≤ 20) (h1 : x < m) (h2 : m < z) (he : (salVE a b i n (K ++ ((x, z), Y, P) :: r)).2 = 0) : salVE a b i n (K ++ ((x, m), Y, P) :: ((m, z), Y, P) :: r) = salVE a b i n (K ++ ((x, z), Y, P) :: r) := by
  simp only [List.length_append, List.length_cons] at hl
  have e1 : salVE a b i n (K ++ ((x, z), Y, P) :: r) = salR a b i n (K ++ ((x, z), Y, P) :: r) [] 0 := by unfold salVE; rw [if_neg (by simp only [List.length_append, List.length_cons]; omega)]
  have e2 : salVE a b i n (K ++ ((x, m), Y, P) :: ((m, z), Y, P) :: r) = salR a b i n (K ++ ((x, m), Y, P) :: ((m, z), Y, P) :: r) [] 0 := by unfold salVE; rw [if_neg (by simp only [List.length_append, List.length_cons]; omega)]
  rw [e1] at he ⊢
  rw [e2]
  obtain ⟨g1, g2⟩ := salR_app K _ _ _ he
  rw [g2] at he ⊢
  rw [salR_pre K _ _ _ g1]
  exact sal_two h1 h2 he
/-- What is known of a piece that comes to something. -/
theorem sal_at {a b i n : Int} {K r : List Pc} {q : Pc} (hl : (K ++ q :: r).length ≤ 20) (he : (salVE a b i n (K ++ q :: r)).2 = 0) : okP a b q := by
  have e1 : salVE a b i n (K ++ q :: r) = salR a b i n (K ++ q :: r) [] 0 := by unfold salVE; rw [if_neg (by omega)]
  rw [e1] at he
  exact ((sal_zero _ _ _ he).1 q (by simp)).1
/-- One piece of all days, by its whole part. -/
theorem sal_whole {a b i n y : Int} (he : (salVE a b i n [((a, b), y, 1000000)]).2 = 0) : perE y i n = 0 ∧ (salVE a b i n [((a, b), y, 1000000)]).1 = perV y i n := by
  have hv : salVE a b i n [((a, b), y, 1000000)] = salR a b i n [((a, b), y, 1000000)] [] 0 := rfl
  have he' := he
  rw [hv] at he'
  obtain ⟨o1, o2, o3, o4⟩ := ((sal_zero _ _ _ he').1 ((a, b), y, 1000000) (by simp)).1
  try dsimp only at o1
  have hone := sal_one (a := a) (b := b) (i := i) (n := n) (x := a) (z := b) (Y := y) (P := 1000000) (Int.le_refl _) o1 (Int.le_refl _) o4
  by_cases ha : amtE i n y 1000000 = 0
  · rw [if_pos ha, up_all _ _ (by omega), show a - a = 0 by omega, up_no _ _ (by omega), Int.sub_zero] at hone
    have hq : (Ra.ofVE y 1000000 1).2 = 0 ∧ perE (Ra.ofVE y 1000000 1).1 i n = 0 := by
      unfold amtE at ha
      split at ha
      · rename_i h; exact ⟨h, ha⟩
      · rename_i h; exact absurd ha h
    have hw : (Ra.ofVE y 1000000 1).1 = y := by
      rw [show Ra.ofVE y 1000000 1 = Ra.partVE y 1000000 1000000 1 from rfl] at hq ⊢
      obtain ⟨_, _, _, _, _, e⟩ := Ra.partVE_ok _ _ _ _ hq.1
      rw [e]
      have := Ra.rnd_exact 1 (Int.toNat 1000000) (by decide) y
      rwa [show ((Int.toNat 1000000 : Nat) : Int) = 1000000 from rfl] at this
    rw [hw] at hq
    rw [hone]
    refine ⟨hq.2, ?_⟩
    unfold wholeV
    rw [hw]
  · rw [if_neg ha] at hone
    rw [hone] at he
    exact absurd he ha
theorem cut_list {L : List Pc} {k : Nat} (h : k < L.length) : L = L.take k ++ L.getD k ((0, 0), 0, 0) :: L.drop (k + 1) := by
  rw [← drop_next h, List.take_append_drop]

end Go.Proofs.Ytamglmenljgbdaa
