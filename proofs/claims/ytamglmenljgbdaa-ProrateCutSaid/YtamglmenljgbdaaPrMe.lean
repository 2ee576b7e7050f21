/-
  What is proved: plain facts on what pieces come to: in the other order it is the same; a piece of no part adds nothing. Conditions: small amounts, as there.
-/
import Derived.Test.YtamglmenljgbdaaPrMd
namespace Go.Proofs.Ytamglmenljgbdaa
open Go Go.RowKit Go.Proofs

def okA (a b i n : Int) (q : Pc) : Prop := okP a b q ∧ amtE i n q.2.1 q.2.2 = 0
def partV (a b i n : Int) (q : Pc) : Int := amtV a b i n q.1.1 q.1.2 q.2.1 q.2.2
def sumA (a b i n : Int) : List Pc → Int
  | [] => 0
  | q :: r => partV a b i n q + sumA a b i n r
def smallP (q : Pc) : Prop := -1099511627776 ≤ q.2.1 ∧ q.2.1 ≤ 1099511627776 ∧ 0 ≤ q.2.2 ∧ q.2.2 ≤ 1000000
def noX (L : List Pc) : Prop := L.Pairwise (fun s t => crossB t.1 s.1 = false)
theorem cross_comm (s t : Sp.Sp) : crossB s t = crossB t s := by
  unfold crossB
  rw [Bool.eq_iff_iff]
  simp only [decide_eq_true_eq]
  exact and_comm
theorem sumA_app (a b i n : Int) : ∀ K L, sumA a b i n (K ++ L) = sumA a b i n K + sumA a b i n L
  | [], L => by simp [sumA]
  | q :: r, L => by
    show partV a b i n q + sumA a b i n (r ++ L) = _
    rw [sumA_app a b i n r L]
    unfold sumA
    cases r <;> (simp only [sumA]; omega)
theorem sumA_rev (a b i n : Int) : ∀ L, sumA a b i n L.reverse = sumA a b i n L
  | [] => rfl
  | q :: r => by
    rw [List.reverse_cons, sumA_app, sumA_rev a b i n r]
    show _ + (partV a b i n q + 0) = partV a b i n q + _
    omega
theorem per_near (t i n : Int) : (0 ≤ t → 0 ≤ perV t i n ∧ perV t i n ≤ t) ∧ (t < 0 → perV t i n ≤ 0 ∧ t ≤ perV t i n) := by
  unfold perV
  generalize (if i < 1 then -1 else i - 1) = x
  generalize (if i < 1 then (0 : Int) else i) = z
  by_cases h : Sh.betE t x z n = 0
  · obtain ⟨h1, h2, h3, h4, h5, h6⟩ := bet_ok h
    rw [(bet_is h1 h2 h3 h4 h5 h6).2]
    exact up_step t x z n h4 h5 h6 h2
  · unfold Sh.betR; rw [if_neg h]; omega
theorem part_small {a b i n : Int} {q : Pc} (hs : smallP q) (ho : okA a b i n q) : -1099511627776 ≤ partV a b i n q ∧ partV a b i n q ≤ 1099511627776 := by
  obtain ⟨⟨h1, h2, h3, h4⟩, he⟩ := ho
  obtain ⟨s1, s2, s3, s4⟩ := hs
  unfold partV
  rw [amt_is he]
  have hv : -1099511627776 ≤ (Ra.ofVE q.2.1 q.2.2 1).1 ∧ (Ra.ofVE q.2.1 q.2.2 1).1 ≤ 1099511627776 := by
    have hr : Ra.rightB q.2.2 = true := Ra.rightB_iff.2 ⟨by omega, by omega⟩
    rw [show Ra.ofVE q.2.1 q.2.2 1 = Ra.partVE q.2.1 q.2.2 1000000 1 by unfold Ra.ofVE; rw [if_pos hr]]
    by_cases hp : (Ra.partVE q.2.1 q.2.2 1000000 1).2 = 0
    · obtain ⟨_, _, _, _, _, e⟩ := Ra.partVE_ok _ _ _ _ hp
      rw [e]
      have hh := Ra.rnd_half (Int.toNat 1000000) (q.2.1 * q.2.2) (by decide)
      rw [show ((Int.toNat 1000000 : Nat) : Int) = 1000000 from rfl] at hh
      have b1 : q.2.1 * q.2.2 ≤ 1099511627776 * 1000000 := by
        by_cases hn : 0 ≤ q.2.1
        · exact Int.mul_le_mul (by omega) (by omega) (by omega) (by omega)
        · have := Int.mul_nonpos_of_nonpos_of_nonneg (show q.2.1 ≤ 0 by omega) s3
          omega
      have b2 : -(1099511627776 * 1000000) ≤ q.2.1 * q.2.2 := by
        by_cases hn : 0 ≤ q.2.1
        · have := Int.mul_nonneg hn s3
          omega
        · have := Int.mul_le_mul (a := -q.2.1) (b := q.2.2) (c := 1099511627776) (d := 1000000) (by omega) (by omega) (by omega) (by omega)
          rw [Int.neg_mul] at this
          omega
      omega
    · rw [Ra.partVE_err _ _ _ _ hp]; omega
  have hw : -1099511627776 ≤ wholeV i n q.2.1 q.2.2 ∧ wholeV i n q.2.1 q.2.2 ≤ 1099511627776 := by
    unfold wholeV
    obtain ⟨p1, p2⟩ := per_near (Ra.ofVE q.2.1 q.2.2 1).1 i n
    by_cases ht : (Ra.ofVE q.2.1 q.2.2 1).1 < 0
    · have := p2 ht; omega
    · have := p1 (by omega); omega
  obtain ⟨u1, u2⟩ := up_step (wholeV i n q.2.1 q.2.2) (q.1.1 - a) (q.1.2 - a) (b - a) (by omega) (by omega) (by omega) (by omega)
  by_cases ht : wholeV i n q.2.1 q.2.2 < 0
  · have := u2 ht; omega
  · have := u1 (by omega); omega
theorem anyC_app (D : List Sp.Sp) (t s : Sp.Sp) : anyC (D ++ [t]) s = (anyC D s || crossB s t) := by unfold anyC; simp [List.any_append]
/-- There is room for so many small parts. -/
def Room (m : Nat) (S : Int) : Prop := -1125899906842624 + 1099511627776 * (m : Int) ≤ S ∧ S ≤ 1125899906842624 - 1099511627776 * (m : Int)
theorem Room.next {m : Nat} {S A : Int} (h : Room (m + 1) S) (h1 : -1099511627776 ≤ A) (h2 : A ≤ 1099511627776) : Sh.fitB S = true ∧ Sh.fitB (S + A) = true ∧ Room m (S + A) := by
  unfold Room at h ⊢
  exact ⟨fit_iff.2 (by omega), fit_iff.2 (by omega), by omega⟩
theorem room0 {m : Nat} (h : m ≤ 20) : Room m 0 := by unfold Room; omega
theorem sal_good {a b i n : Int} (L : List Pc) : ∀ (D : List Sp.Sp) (S : Int), (∀ q ∈ L, smallP q) → (∀ q ∈ L, okA a b i n q) → (∀ q ∈ L, anyC D q.1 = false) → noX L → Room L.length S → salR a b i n L D S = (S + sumA a b i n L, 0) := by
  induction L with
  | nil => intro D S _ _ _ _ _; show (S, (0 : Int)) = (S + 0, 0); rw [Int.add_zero]
  | cons q r ih =>
    intro D S hs ho hc hx hr
    have hq := ho q (by simp)
    have hp := part_small (hs q (by simp)) hq
    obtain ⟨r1, r2, r3⟩ := Room.next hr hp.1 hp.2
    obtain ⟨s1, s2⟩ := step_ok (i := i) (n := n) (D := D) (S := S) hq.1 (hc q (by simp)) hq.2 r1 r2
    obtain ⟨x1, x2⟩ := List.pairwise_cons.1 hx
    rw [salR_cons, if_pos s1, s2]
    have e := ih (D ++ [q.1]) (S + partV a b i n q) (fun t ht => hs t (by simp [ht])) (fun t ht => ho t (by simp [ht])) (fun t ht => by rw [anyC_app, hc t (by simp [ht]), x1 t ht]; rfl) x2 r3
    have e2 : sumA a b i n (q :: r) = partV a b i n q + sumA a b i n r := rfl
    rw [e2, ← Int.add_assoc]
    exact e
theorem sal_zero {a b i n : Int} : ∀ (L : List Pc) (D : List Sp.Sp) (S : Int), (salR a b i n L D S).2 = 0 → (∀ q ∈ L, okA a b i n q) ∧ (∀ q ∈ L, anyC D q.1 = false) ∧ noX L
  | [], D, S, _ => ⟨(fun q h => by cases h), (fun q h => by cases h), List.Pairwise.nil⟩
  | q :: r, D, S, h => by
    rw [salR_cons] at h
    by_cases he : stepE a b i n D S q = 0
    · rw [if_pos he] at h
      obtain ⟨g1, g2, g3, g4, g5, g6⟩ := step_zero he
      obtain ⟨i1, i2, i3⟩ := sal_zero r _ _ h
      have hsp : ∀ t ∈ r, anyC D t.1 = false ∧ crossB t.1 q.1 = false := fun t ht => by
        have := i2 t ht
        rw [anyC_app, Bool.or_eq_false_iff] at this
        exact this
      refine ⟨fun t ht => ?_, fun t ht => ?_, List.pairwise_cons.2 ⟨fun t ht => (hsp t ht).2, i3⟩⟩
      · rcases List.mem_cons.1 ht with rfl | ht
        · exact ⟨g1, g3⟩
        · exact i1 t ht
      · rcases List.mem_cons.1 ht with rfl | ht
        · exact g2
        · exact (hsp t ht).1
    · rw [if_neg he] at h; exact absurd h he
theorem noX_rev {L : List Pc} (h : noX L) : noX L.reverse := by
  unfold noX
  rw [List.pairwise_reverse]
  exact List.Pairwise.imp (fun {s t} hst => by rw [cross_comm]; exact hst) h
theorem sal_val {a b i n : Int} {L : List Pc} (hl : L.length ≤ 20) (hs : ∀ q ∈ L, smallP q) (h : (salVE a b i n L).2 = 0) : salVE a b i n L = (sumA a b i n L, 0) ∧ salVE a b i n L.reverse = (sumA a b i n L, 0) := by
  have hv : salVE a b i n L = salR a b i n L [] 0 := by unfold salVE; rw [if_neg (by omega)]
  have hv' : salVE a b i n L.reverse = salR a b i n L.reverse [] 0 := by unfold salVE; rw [if_neg (by rw [List.length_reverse]; omega)]
  rw [hv] at h
  obtain ⟨g1, g2, g3⟩ := sal_zero L [] 0 h
  rw [hv, hv']
  have e1 := sal_good (a := a) (b := b) (i := i) (n := n) L [] 0 hs g1 g2 g3 (room0 hl)
  have e2 := sal_good (a := a) (b := b) (i := i) (n := n) L.reverse [] 0 (fun q hq => hs q (List.mem_reverse.1 hq)) (fun q hq => g1 q (List.mem_reverse.1 hq)) (fun q hq => g2 q (List.mem_reverse.1 hq)) (noX_rev g3) (by rw [List.length_reverse]; exact room0 hl)
  rw [Int.zero_add] at e1 e2
  exact ⟨e1, by rw [e2, sumA_rev]⟩
/-- Pieces in the other order. -/
theorem sal_rev {a b i n : Int} {L : List Pc} (hl : L.length ≤ 20) (hs : ∀ q ∈ L, smallP q) : ((salVE a b i n L).2 = 0 ↔ (salVE a b i n L.reverse).2 = 0) ∧ (salVE a b i n L).1 = (salVE a b i n L.reverse).1 := by
  have h2 := fun h => sal_val (a := a) (b := b) (i := i) (n := n) (L := L.reverse) (by rw [List.length_reverse]; exact hl) (fun q hq => hs q (List.mem_reverse.1 hq)) h
  rw [List.reverse_reverse] at h2
  by_cases h : (salVE a b i n L).2 = 0
  · obtain ⟨e1, e2⟩ := sal_val hl hs h
    rw [e1, e2]
    exact ⟨Iff.rfl, rfl⟩
  · have h' : ¬ (salVE a b i n L.reverse).2 = 0 := fun g => h (by rw [(h2 g).2])
    rw [salVE_err h, salVE_err h']
    exact ⟨⟨fun g => absurd g h, fun g => absurd g h'⟩, rfl⟩
theorem salR_app {a b i n : Int} : ∀ (L K : List Pc) (D : List Sp.Sp) (S : Int), (salR a b i n (L ++ K) D S).2 = 0 → (salR a b i n L D S).2 = 0 ∧ salR a b i n (L ++ K) D S = salR a b i n K (D ++ dys L) (salR a b i n L D S).1
  | [], K, D, S, h => ⟨rfl, by simp [dys, salR]⟩
  | q :: r, K, D, S, h => by
    have e : (q :: r) ++ K = q :: (r ++ K) := rfl
    rw [e, salR_cons] at h ⊢
    rw [salR_cons]
    by_cases he : stepE a b i n D S q = 0
    · rw [if_pos he] at h ⊢
      rw [if_pos he]
      obtain ⟨i1, i2⟩ := salR_app r K _ _ h
      refine ⟨i1, ?_⟩
      rw [i2]
      simp [dys]
    · rw [if_neg he] at h; exact absurd h he
theorem rnd_zero0 {D : Nat} (hD : 0 < D) : Ra.rnd 1 D 0 = 0 := by
  have := Ra.rnd_exact 1 D hD 0
  rwa [Int.zero_mul] at this
theorem whole_no {i n Y : Int} : wholeV i n Y 0 = 0 := by
  have hq : (Ra.ofVE Y 0 1).1 = 0 := by
    rw [show Ra.ofVE Y 0 1 = Ra.partVE Y 0 1000000 1 from rfl]
    by_cases hp : (Ra.partVE Y 0 1000000 1).2 = 0
    · obtain ⟨_, _, _, _, _, e⟩ := Ra.partVE_ok _ _ _ _ hp
      rw [e, Int.mul_zero]
      exact rnd_zero0 (by decide)
    · exact Ra.partVE_err _ _ _ _ hp
  unfold wholeV
  rw [hq]
  obtain ⟨p1, -⟩ := per_near 0 i n
  have := p1 (Int.le_refl _)
  omega
/-- A piece of no part adds nothing. -/
theorem sal_more {a b i n : Int} {L : List Pc} (hl : L.length ≤ 20) (x : Sp.Sp) (Y : Int) (h : (salVE a b i n (L ++ [(x, Y, 0)])).2 = 0) : (salVE a b i n (L ++ [(x, Y, 0)])).1 = (salVE a b i n L).1 := by
  have hv : salVE a b i n L = salR a b i n L [] 0 := by unfold salVE; rw [if_neg (by omega)]
  have hv' : salVE a b i n (L ++ [(x, Y, 0)]) = salR a b i n (L ++ [(x, Y, 0)]) [] 0 := by unfold salVE; rw [if_neg (by rw [List.length_append]; simp; omega)]
  rw [hv'] at h ⊢
  rw [hv]
  obtain ⟨h1, h2⟩ := salR_app L _ _ _ h
  rw [h2] at h ⊢
  rw [salR_cons] at h ⊢
  split
  · rename_i he
    obtain ⟨g1, g2, g3, g4, g5, g6⟩ := step_zero he
    show stepV a b i n _ _ = _
    obtain ⟨o1, o2, o3, o4⟩ := g1
    rw [g6, amt_is g3]
    dsimp only
    obtain ⟨u1, -⟩ := up_step (wholeV i n Y 0) (x.1 - a) (x.2 - a) (b - a) (by dsimp only at o2; omega) (by dsimp only at o1; omega) (by dsimp only at o3; omega) (by dsimp only at o1 o2 o3; omega)
    rw [whole_no] at u1 ⊢
    have := u1 (Int.le_refl _)
    omega
  · rename_i he
    rw [if_neg he] at h
    exact absurd h he

end Go.Proofs.Ytamglmenljgbdaa
