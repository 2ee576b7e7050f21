/-
  What is proved: plain facts on sums of hours: what was worked, what a later entry changes, what greater limits change, what an entry that stands alone has. Conditions: right entries, right limits.
-/
import Derived.Test.YtlfflnfodnegnaaSkMath
namespace Go.Proofs.Ytlfflnfodnegnaa

/-- What was worked in a span, and by night. -/
def wrk (s t : Int) (f : Nat → En) : Nat → Int
  | 0 => 0
  | i + 1 => if s ≤ (f i).1 ∧ (f i).1 < t then wrk s t f i + (f i).2.1 else wrk s t f i
def ngt (s t : Int) (f : Nat → En) : Nat → Int
  | 0 => 0
  | i + 1 => if s ≤ (f i).1 ∧ (f i).1 < t then ngt s t f i + (f i).2.2 else ngt s t f i
section
variable {f : Nat → En} {n : Nat} {D W : Int}
theorem sum_worked (h : Rt f n) (hL : Lim D W) (s t : Int) : ∀ i, i ≤ n → (sumP D W s t f i).1 + (sumP D W s t f i).2.1 = wrk s t f i ∧ (sumP D W s t f i).2.2 = ngt s t f i
  | 0, _ => ⟨rfl, rfl⟩
  | i + 1, hi => by
    have ih := sum_worked h hL s t i (by omega)
    obtain ⟨-, h0, h1, h2, h3⟩ := h.1 i (by omega)
    obtain ⟨p, q, r, s'⟩ := hrs_bd (W := W) (A := (stt D W f i (mon (f i).1)).1) hL.1 h0
    rw [sumP_succ]
    unfold wrk ngt hrI
    split
    · simp only [addH]; omega
    · exact ih
theorem wrk_bd (h : Rt f n) (s t : Int) : ∀ i, i ≤ n → (0 ≤ wrk s t f i ∧ wrk s t f i ≤ 1440 * i) ∧ 0 ≤ ngt s t f i ∧ ngt s t f i ≤ 1440 * i
  | 0, _ => by simp [wrk, ngt]
  | i + 1, hi => by
    have ih := wrk_bd h s t i (by omega)
    obtain ⟨-, h0, h1, h2, h3⟩ := h.1 i (by omega)
    unfold wrk ngt
    split <;> omega
/-- An entry behind all others. -/
theorem sum_later {g : Nat → En} (s t : Int) (hg : ∀ j, j < n → f j = g j) (ht : t ≤ (g n).1) : sumP D W s t g (n + 1) = sumP D W s t f n := by
  rw [sumP_succ, if_neg (by omega), sumP_congr s t n hg]
/-- What is left hangs not on the limit of a week. -/
theorem left_same (W' : Int) (m : Int) : ∀ i, (stt D W f i m).1 = (stt D W' f i m).1
  | 0 => rfl
  | i + 1 => by
    rw [stt_succ, stt_succ]
    unfold put
    split
    · simp only; rw [left_same W' m i]
    · exact left_same W' m i
theorem left_pos (h : Rt f n) (hL : Lim D W) {i : Nat} (hi : i ≤ n) (m : Int) : 0 ≤ (stt D W f i m).1 := (stt_bd h hL i hi m).1.1
theorem sum_week (h : Rt f n) {W' : Int} (hL : Lim D W) (hL' : Lim D W') (hw : W ≤ W') (s t : Int) : ∀ i, i ≤ n → (sumP D W' s t f i).2.1 ≤ (sumP D W s t f i).2.1
  | 0, _ => Int.le_refl _
  | i + 1, hi => by
    have ih := sum_week h hL hL' hw s t i (by omega)
    obtain ⟨-, h0, h1, -, -⟩ := h.1 i (by omega)
    rw [sumP_succ, sumP_succ]
    have hl := (lft_bd hL.1 h0).1
    have hA := left_pos h hL (Nat.le_of_succ_le hi) (mon (f i).1)
    have p1 := plain_is (W := W) (A := (stt D W f i (mon (f i).1)).1) hl
    have p2 := plain_is (W := W') (A := (stt D W f i (mon (f i).1)).1) hl
    have b1 := (hrs_bd (W := W) (A := (stt D W f i (mon (f i).1)).1) hL.1 h0).2.2.1
    have b2 := (hrs_bd (W := W') (A := (stt D W f i (mon (f i).1)).1) hL.1 h0).2.2.1
    split
    · simp only [addH, hrI]
      rw [left_same (D := D) (W := W') W (mon (f i).1) i]
      generalize (stt D W f i (mon (f i).1)).1 = A at *
      generalize lft D (f i) = l at *
      unfold mn at *
      omega
    · exact ih
/-- Days all of whose hours count. -/
theorem sum_all (h : Rt f n) : ∀ i, i ≤ n → sumP D W (-4611686018427387904) 4611686018427387904 f (i) = sumP D W (-25567) 84006 f i
  | 0, _ => rfl
  | i + 1, hi => by
    have hb := inB_iff.1 (h.1 i (by omega)).1
    rw [sumP_succ, sumP_succ, if_pos (by omega), if_pos (by omega), sum_all h i (by omega)]
theorem sum_wide (h : Rt f n) {D' W' : Int} (hL : Lim D W) (hL' : Lim D' W') (hd : D ≤ D') (hw : W ≤ W') : ∀ i, i ≤ n →
    (sumP D' W' (-25567) 84006 f i).1 + (sumP D' W' (-25567) 84006 f i).2.1 = (sumP D W (-25567) 84006 f i).1 + (sumP D W (-25567) 84006 f i).2.1 ∧ 0 ≤ (sumP D' W' (-25567) 84006 f i).1 - (sumP D W (-25567) 84006 f i).1 ∧
    ∀ d, inB d = true → (∀ j, j < i → (f j).1 ≤ d) → (stt D W f i (mon d)).1 ≤ (stt D' W' f i (mon d)).1 ∧ mn W' (stt D' W' f i (mon d)).1 - mn W (stt D W f i (mon d)).1 ≤ (sumP D' W' (-25567) 84006 f i).1 - (sumP D W (-25567) 84006 f i).1
  | 0, _ => ⟨rfl, by simp [sumP], fun d _ _ => by have := hL.2.2.1; have := hL'.2.2.1; simp only [stt, sumP]; unfold mn; omega⟩
  | i + 1, hi => by
    obtain ⟨e1, e2, e3⟩ := sum_wide h hL hL' hd hw i (by omega)
    obtain ⟨hin, h0, h1, -, -⟩ := h.1 i (by omega)
    have hb := inB_iff.1 hin
    have hprev : ∀ j, j < i → (f j).1 ≤ (f i).1 := fun j hj => by have := h.lt hj (by omega : i < n); omega
    obtain ⟨c1, c2⟩ := e3 (f i).1 hin hprev
    obtain ⟨l0, l1, l2⟩ := lft_bd hL.1 h0
    obtain ⟨l0', l1', l2'⟩ := lft_bd hL'.1 h0
    have ll : lft D (f i) ≤ lft D' (f i) := by unfold lft mn; omega
    have p1 := plain_is (W := W) (A := (stt D W f i (mon (f i).1)).1) l0
    have p2 := plain_is (W := W') (A := (stt D' W' f i (mon (f i).1)).1) l0'
    have b1 := (hrs_bd (W := W) (A := (stt D W f i (mon (f i).1)).1) hL.1 h0).2.2.1
    have b2 := (hrs_bd (W := W') (A := (stt D' W' f i (mon (f i).1)).1) hL'.1 h0).2.2.1
    have hA := left_pos h hL (Nat.le_of_succ_le hi) (mon (f i).1)
    have key : mn W' ((stt D' W' f i (mon (f i).1)).1 + lft D' (f i)) - mn W ((stt D W f i (mon (f i).1)).1 + lft D (f i)) ≤ (sumP D' W' (-25567) 84006 f (i + 1)).1 - (sumP D W (-25567) 84006 f (i + 1)).1 := by
      rw [sumP_succ, sumP_succ, if_pos (by omega), if_pos (by omega)]
      simp only [addH, hrI]
      omega
    refine ⟨?_, ?_, fun d hd' hj => ?_⟩
    · rw [sumP_succ, sumP_succ, if_pos (by omega), if_pos (by omega)]
      simp only [addH, hrI]
      omega
    · have : 0 ≤ mn W' ((stt D' W' f i (mon (f i).1)).1 + lft D' (f i)) - mn W ((stt D W f i (mon (f i).1)).1 + lft D (f i)) := by unfold mn; omega
      omega
    · rw [stt_succ, stt_succ]
      unfold put
      by_cases e : mon d = mon (f i).1
      · rw [if_pos e, if_pos e, e]
        simp only
        exact ⟨by omega, key⟩
      · rw [if_neg e, if_neg e]
        have z1 := stt_none (D := D) (W := W) (f := f) (mon d) i (fun j hjj he => by
          have a1 := mon_mono (h.1 j (by omega)).1 hin (hprev j hjj)
          have a2 := mon_mono hin hd' (hj i (by omega))
          omega)
        have z2 := stt_none (D := D') (W := W') (f := f) (mon d) i (fun j hjj he => by
          have a1 := mon_mono (h.1 j (by omega)).1 hin (hprev j hjj)
          have a2 := mon_mono hin hd' (hj i (by omega))
          omega)
        rw [z1, z2]
        have hW := hL.2.2.1
        have hW' := hL'.2.2.1
        have : 0 ≤ mn W' ((stt D' W' f i (mon (f i).1)).1 + lft D' (f i)) - mn W ((stt D W f i (mon (f i).1)).1 + lft D (f i)) := by unfold mn; omega
        refine ⟨Int.le_refl _, ?_⟩
        simp only
        unfold mn at *
        omega
theorem sum_more (h : Rt f n) {D' W' : Int} (hL : Lim D W) (hL' : Lim D' W') (hd : D ≤ D') (hw : W ≤ W') : (sumP D' W' (-4611686018427387904) 4611686018427387904 f n).2.1 ≤ (sumP D W (-4611686018427387904) 4611686018427387904 f n).2.1 := by
  obtain ⟨a, b, -⟩ := sum_wide h hL hL' hd hw n (Nat.le_refl _)
  rw [sum_all h n (Nat.le_refl _), sum_all h n (Nat.le_refl _)]
  omega
/-- Without any room nothing is plain. -/
theorem sum_none (h : Rt f n) (hL : Lim 0 W) (s t : Int) : ∀ i, i ≤ n → (sumP 0 W s t f i).1 = 0
  | 0, _ => rfl
  | i + 1, hi => by
    have ih := sum_none h hL s t i (by omega)
    obtain ⟨-, h0, h1, -, -⟩ := h.1 i (by omega)
    have hl := lft_bd hL.1 h0
    have p1 := plain_is (W := W) (A := (stt 0 W f i (mon (f i).1)).1) hl.1
    rw [sumP_succ]
    split
    · simp only [addH, hrI]
      rw [show lft 0 (f i) = 0 by omega, Int.add_zero] at p1
      omega
    · exact ih
theorem left_few (h : Rt f n) (hL : Lim D W) : ∀ i, i ≤ n → ∀ m d, (∀ j, j < i → (f j).1 < d) → m ≤ d → (stt D W f i m).1 ≤ 1440 * (d - m)
  | 0, _, m, d, _, hm => by simp only [stt]; omega
  | i + 1, hi, m, d, hj, hm => by
    obtain ⟨hin, h0, h1, -, -⟩ := h.1 i (by omega)
    have hl := lft_bd hL.1 h0
    rw [stt_succ]
    unfold put
    split
    · rename_i e
      have ih := left_few h hL i (by omega) m (f i).1 (fun j hj' => h.lt hj' (by omega)) (by have := mon_le hin; omega)
      have := hj i (by omega)
      simp only
      omega
    · exact left_few h hL i (by omega) m d (fun j hj' => hj j (by omega)) hm
theorem sum_great (h : Rt f n) (s t : Int) : ∀ i, i ≤ n → (sumP 1440 10080 s t f i).2.1 = 0
  | 0, _ => rfl
  | i + 1, hi => by
    have hL : Lim 1440 10080 := by unfold Lim; omega
    have ih := sum_great h s t i (by omega)
    obtain ⟨hin, h0, h1, -, -⟩ := h.1 i (by omega)
    have hl : lft 1440 (f i) = (f i).2.1 := by unfold lft mn; omega
    have hf := left_few h hL i (by omega) (mon (f i).1) (f i).1 (fun j hj' => h.lt hj' (by omega)) (mon_le hin).1
    have hm := mon_le hin
    have p1 := plain_is (D := 1440) (W := 10080) (A := (stt 1440 10080 f i (mon (f i).1)).1) (e := f i) (by omega)
    have b1 := (hrs_bd (D := 1440) (W := 10080) (A := (stt 1440 10080 f i (mon (f i).1)).1) (e := f i) (by omega) h0).2.2.1
    rw [sumP_succ]
    split
    · simp only [addH, hrI]
      rw [hl] at p1
      generalize (stt 1440 10080 f i (mon (f i).1)).1 = A at *
      unfold mn at p1
      omega
    · exact ih
theorem addH_zero (h : Hr) : addH (0, 0, 0) h = h := by
  obtain ⟨a, b, c⟩ := h
  simp [addH]
theorem addH_assoc (a b c : Hr) : addH (addH a b) c = addH a (addH b c) := by simp [addH, Int.add_assoc]
theorem addH_comm (a b : Hr) : addH a b = addH b a := by simp [addH, Int.add_comm]
/-- A span of one day that has an entry. -/
theorem sum_ahead (h : Rt f n) {q : Nat} (hq : q < n) : ∀ i, i ≤ q → sumP D W (f q).1 ((f q).1 + 1) f i = (0, 0, 0)
  | 0, _ => rfl
  | i + 1, hi => by
    have := h.lt (i := i) (j := q) (by omega) hq
    rw [sumP_succ, if_neg (by omega)]
    exact sum_ahead h hq i (by omega)
theorem sum_behind (h : Rt f n) {q : Nat} (hq : q < n) : ∀ k, q + 1 + k ≤ n → sumP D W (f q).1 ((f q).1 + 1) f (q + 1 + k) = hrI D W f q
  | 0, _ => by
    rw [Nat.add_zero, sumP_succ, if_pos (by omega), sum_ahead h hq q (Nat.le_refl _), addH_zero]
  | k + 1, hk => by
    have := h.lt (i := q) (j := q + 1 + k) (by omega) (by omega)
    rw [← Nat.add_assoc, sumP_succ, if_neg (by omega)]
    exact sum_behind h hq k (by omega)
theorem sum_one (h : Rt f n) {q : Nat} (hq : q < n) : sumP D W (f q).1 ((f q).1 + 1) f n = hrI D W f q := by
  have := sum_behind (D := D) (W := W) h hq (n - (q + 1)) (by omega)
  rwa [show q + 1 + (n - (q + 1)) = n by omega] at this
theorem sum_lone (x : En) : sumP D W x.1 (x.1 + 1) (fun _ => x) 1 = hrs D W 0 x := by
  rw [sumP_succ, if_pos (by omega)]
  show addH (0, 0, 0) _ = _
  rw [addH_zero]
  rfl
theorem lone_plain (hL : Lim D W) {x : En} (h0 : 0 ≤ x.2.1) : (hrs D W 0 x).1 = min (min x.2.1 D) W ∧ (hrs D W 0 x).2.1 = x.2.1 - (hrs D W 0 x).1 ∧ (hrs D W 0 x).2.2 = x.2.2 := by
  have hl := lft_bd hL.1 h0
  have p := plain_is (W := W) (A := 0) hl.1
  have b := (hrs_bd (W := W) (A := 0) hL.1 h0).2.2
  have hW := hL.2.2.1
  refine ⟨?_, by omega, b.2⟩
  unfold lft mn at *
  omega
theorem lone_more (hL : Lim D W) {x : En} (h0 : 0 ≤ x.2.1) {A : Int} (hA : 0 ≤ A) : (hrs D W A x).1 ≤ (hrs D W 0 x).1 := by
  have hl := lft_bd hL.1 h0
  have p := plain_is (W := W) (A := 0) hl.1
  have q := plain_is (W := W) (A := A) hl.1
  have hW := hL.2.2.1
  unfold mn at *
  omega
/-- No entry of the week lies ahead of it. -/
theorem lone_week (h : Rt f n) {q : Nat} (hq : q < n) (hn : ∀ i, i < n → ¬ ((f i).1 < (f q).1 ∧ (f q).1 - 7 < (f i).1)) : hrI D W f q = hrs D W 0 (f q) := by
  unfold hrI
  rw [stt_none (D := D) (W := W) (f := f) (mon (f q).1) q (fun j hj e => by
    have a := mon_near (h.1 j (by omega)).1 (h.1 q hq).1 e
    have b := h.lt hj hq
    exact hn j (by omega) ⟨b, by omega⟩)]
theorem lone_right (h : chk f n D W = 0) {q : Nat} (hq : q < n) : chk (fun _ => f q) 1 D W = 0 := by
  obtain ⟨h1, h2, h3⟩ := chk_ok.1 h
  exact chk_ok.2 ⟨by omega, ⟨fun i _ => h2.1 q hq, fun i hi => by omega⟩, h3⟩

/-- A week's plain minutes. -/
theorem week_plain (h : Rt f n) (hL : Lim D W) (m : Int) : ∀ i, i ≤ n → (stt D W f i m).2.1 = mn W (stt D W f i m).1
  | 0, _ => by have := hL.2.2.1; simp only [stt]; unfold mn; omega
  | i + 1, hi => by
    have ih := week_plain h hL m i (by omega)
    obtain ⟨hin, h0, h1, -, -⟩ := h.1 i (by omega)
    have hl := lft_bd hL.1 h0
    have p := plain_is (W := W) (A := (stt D W f i m).1) hl.1
    rw [stt_succ]
    unfold put
    split
    · simp only [addH]; omega
    · exact ih
/-- What weeks come to together. -/
def sumW (g : Int → Hr) : List Int → Hr
  | [] => (0, 0, 0)
  | m :: r => addH (g m) (sumW g r)
theorem sumW_app (g : Int → Hr) (K : List Int) (m : Int) : sumW g (K ++ [m]) = addH (sumW g K) (g m) := by
  induction K with
  | nil => show addH (g m) (0, 0, 0) = addH (0, 0, 0) (g m); exact addH_comm _ _
  | cons k K ih => show addH (g k) (sumW g (K ++ [m])) = _; rw [ih, ← addH_assoc]; rfl
theorem sumW_zero : ∀ K : List Int, sumW (fun _ => (0, 0, 0)) K = (0, 0, 0)
  | [] => rfl
  | _ :: K => by show addH (0, 0, 0) (sumW _ K) = _; rw [sumW_zero K]; rfl
theorem sumW_out {g g' : Int → Hr} {M : Int} : ∀ {K : List Int}, M ∉ K → (∀ m, m ≠ M → g' m = g m) → sumW g' K = sumW g K
  | [], _, _ => rfl
  | k :: K, hM, hg => by
    show addH (g' k) (sumW g' K) = addH (g k) (sumW g K)
    rw [hg k (fun e => hM (by rw [e]; exact List.mem_cons_self ..)), sumW_out (fun h => hM (List.mem_cons_of_mem _ h)) hg]
theorem sumW_one {g g' : Int → Hr} {M : Int} {h : Hr} (h1 : g' M = addH (g M) h) (hg : ∀ m, m ≠ M → g' m = g m) : ∀ {K : List Int}, K.Nodup → M ∈ K → sumW g' K = addH (sumW g K) h
  | [], _, hM => by cases hM
  | k :: K, hn, hM => by
    obtain ⟨a, b⟩ := List.nodup_cons.1 hn
    show addH (g' k) (sumW g' K) = addH (addH (g k) (sumW g K)) h
    by_cases e : k = M
    · subst e
      rw [h1, sumW_out a hg, addH_assoc, addH_comm h, ← addH_assoc]
    · rw [hg k e, sumW_one h1 hg b ((List.mem_cons.1 hM).resolve_left (fun e' => e e'.symm)), ← addH_assoc]
theorem sum_weeks (h : Rt f n) {Ms : List Int} (hn : Ms.Nodup) (hM : ∀ i, i < n → mon (f i).1 ∈ Ms) : ∀ i, i ≤ n → sumW (fun m => (stt D W f i m).2) Ms = sumP D W (-4611686018427387904) 4611686018427387904 f i
  | 0, _ => sumW_zero Ms
  | i + 1, hi => by
    have ih := sum_weeks h hn hM i (by omega)
    have hb := inB_iff.1 (h.1 i (by omega)).1
    rw [sumP_succ, if_pos (by omega), ← ih]
    refine sumW_one (M := mon (f i).1) ?_ ?_ hn (hM i (by omega))
    · rw [stt_succ]; unfold put; rw [if_pos rfl]; rfl
    · intro m hm
      show (stt D W f (i + 1) m).2 = (stt D W f i m).2
      rw [stt_succ]; unfold put; rw [if_neg hm]
theorem sum_cut (h : Rt f n) (s c t : Int) (h1 : s ≤ c) (h2 : c ≤ t) : ∀ i, i ≤ n → addH (sumP D W s c f i) (sumP D W c t f i) = sumP D W s t f i
  | 0, _ => rfl
  | i + 1, hi => by
    have ih := sum_cut h s c t h1 h2 i (by omega)
    rw [sumP_succ, sumP_succ, sumP_succ, ← ih]
    by_cases a : s ≤ (f i).1 ∧ (f i).1 < c
    · rw [if_pos a, if_neg (by omega), if_pos (by omega), addH_assoc, addH_comm (hrI D W f i), ← addH_assoc]
    · rw [if_neg a]
      by_cases b : c ≤ (f i).1 ∧ (f i).1 < t
      · rw [if_pos b, if_pos (by omega), addH_assoc]
      · rw [if_neg b, if_neg (by omega)]
end

end Go.Proofs.Ytlfflnfodnegnaa
