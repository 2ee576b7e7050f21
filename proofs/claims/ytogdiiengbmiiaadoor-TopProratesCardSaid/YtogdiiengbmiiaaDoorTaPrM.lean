/-
  What is proved: texts of other seats, joined for this one: what each theorem says. Conditions: as each says.
-/
import Derived.Test.YtogdiiengbmiiaaDoorTaPrE
namespace Go.Proofs.YtogdiiengbmiiaaDoor
open Go Go.RowKit Go.Proofs

theorem up_mono (t a b f : Int) (ht : 0 ≤ t) (h1 : a ≤ b) (hf : 0 < f) : Sh.upV t a f ≤ Sh.upV t b f := by
  unfold Sh.upV
  have m1 := half_mono t.natAbs f.toNat (by omega) (show a.toNat ≤ b.toNat by omega)
  rcases sg_cases t with ⟨h, e⟩ | ⟨h, e⟩
  · omega
  · rw [e]; omega
theorem up_fit {t a f : Int} (h : Sh.fitB t = true) (h0 : 0 ≤ a) (h1 : a ≤ f) (hf : 0 < f) : Sh.fitB (Sh.upV t a f) = true := by
  obtain ⟨s1, s2⟩ := up_step t 0 a f (by omega) h0 h1 hf
  rw [up_no t f hf] at s1 s2
  have := fit_iff.1 h
  apply fit_iff.2
  by_cases ht : t < 0
  · have := s2 ht; omega
  · have := s1 (by omega); omega
/-- A period's part of the part of a year's amount. -/
def wholeV (i n Y P : Int) : Int := perV (Ra.ofVE Y P 1).1 i n
theorem whole_fit (i n Y P : Int) : Sh.fitB (wholeV i n Y P) = true := per_fit _ _ _
theorem amt_is {a b i n x z Y P : Int} (h : amtE i n Y P = 0) : amtV a b i n x z Y P = Sh.upV (wholeV i n Y P) (z - a) (b - a) - Sh.upV (wholeV i n Y P) (x - a) (b - a) := by
  unfold amtV; rw [if_pos h]; rfl
theorem amt_fit {a b i n x z Y P : Int} (h : amtE i n Y P = 0) (h1 : a ≤ x) (h2 : x < z) (h3 : z ≤ b) : Sh.fitB (amtV a b i n x z Y P) = true := by
  rw [amt_is h]
  have hf := fit_iff.1 (whole_fit i n Y P)
  obtain ⟨s1, s2⟩ := up_step (wholeV i n Y P) (x - a) (z - a) (b - a) (by omega) (by omega) (by omega) (by omega)
  apply fit_iff.2
  by_cases ht : wholeV i n Y P < 0
  · have := s2 ht; omega
  · have := s1 (by omega); omega
/-- A piece that lies in the period. -/
def okP (a b : Int) (q : Pc) : Prop := q.1.1 < q.1.2 ∧ a ≤ q.1.1 ∧ q.1.2 ≤ b ∧ b - a ≤ 366
theorem chk_of {a b : Int} {q : Pc} {cr : Bool} (h : okP a b q) (hc : cr = false) : chkE a b q.1.1 q.1.2 cr = 0 := by
  obtain ⟨h1, h2, h3, h4⟩ := h
  unfold chkE; rw [if_neg (by omega), hc]; rfl
theorem step_ok {a b i n : Int} {D : List Sp.Sp} {S : Int} {q : Pc} (h : okP a b q) (hc : anyC D q.1 = false) (he : amtE i n q.2.1 q.2.2 = 0) (hS : Sh.fitB S = true) (hSA : Sh.fitB (S + amtV a b i n q.1.1 q.1.2 q.2.1 q.2.2) = true) :
    stepE a b i n D S q = 0 ∧ stepV a b i n S q = S + amtV a b i n q.1.1 q.1.2 q.2.1 q.2.2 := by
  obtain ⟨h1, h2, h3, h4⟩ := id h
  have hA := amt_fit (a := a) (b := b) (x := q.1.1) (z := q.1.2) he h2 h1 h3
  obtain ⟨a1, a2⟩ := add_is hS hA hSA
  unfold stepE stepV
  rw [if_pos (chk_of h hc), if_pos he]
  exact ⟨a1, a2⟩
theorem step_zero {a b i n : Int} {D : List Sp.Sp} {S : Int} {q : Pc} (h : stepE a b i n D S q = 0) : okP a b q ∧ anyC D q.1 = false ∧ amtE i n q.2.1 q.2.2 = 0 ∧ Sh.fitB S = true ∧ Sh.fitB (S + amtV a b i n q.1.1 q.1.2 q.2.1 q.2.2) = true ∧ stepV a b i n S q = S + amtV a b i n q.1.1 q.1.2 q.2.1 q.2.2 := by
  unfold stepE at h
  split at h
  · rename_i hc
    obtain ⟨c1, c2, c3, c4, c5⟩ := chk_zero hc
    split at h
    · rename_i he
      obtain ⟨a1, a2, a3, a4⟩ := add_ok h
      exact ⟨⟨c1, c2, c3, c4⟩, c5, he, a1, a3, a4⟩
    · rename_i he; exact absurd h he
  · rename_i hc; exact absurd h hc
theorem salR_cons (a b i n : Int) (q : Pc) (r : List Pc) (D : List Sp.Sp) (S : Int) : salR a b i n (q :: r) D S = if stepE a b i n D S q = 0 then salR a b i n r (D ++ [q.1]) (stepV a b i n S q) else (0, stepE a b i n D S q) := rfl
theorem salR_err {a b i n : Int} : ∀ (L : List Pc) (D : List Sp.Sp) (S : Int), (salR a b i n L D S).2 ≠ 0 → (salR a b i n L D S).1 = 0
  | [], D, S, h => absurd rfl h
  | q :: r, D, S, h => by
    rw [salR_cons] at h ⊢
    split
    · rename_i he
      rw [if_pos he] at h
      exact salR_err r _ _ h
    · rfl
theorem salVE_err {a b i n : Int} {L : List Pc} (h : (salVE a b i n L).2 ≠ 0) : (salVE a b i n L).1 = 0 := by
  unfold salVE at h ⊢
  split
  · rfl
  · rename_i hl
    rw [if_neg hl] at h
    exact salR_err _ _ _ h
theorem sal_run {a b i n : Int} : ∀ (L : List Pc) (D : List Sp.Sp) (F : Nat → Int), (∀ k, k < L.length → stepE a b i n (D ++ dys (L.take k)) (F k) (L.getD k ((0, 0), 0, 0)) = 0 ∧ stepV a b i n (F k) (L.getD k ((0, 0), 0, 0)) = F (k + 1)) → salR a b i n L D (F 0) = (F L.length, 0)
  | [], D, F, _ => rfl
  | q :: r, D, F, h => by
    obtain ⟨h0, h1⟩ := h 0 (by simp)
    have e0 : (q :: r).getD 0 ((0, 0), 0, 0) = q := rfl
    have e1 : dys ((q :: r).take 0) = [] := rfl
    rw [e0, e1, List.append_nil] at h0
    rw [e0] at h1
    rw [salR_cons, if_pos h0, h1]
    have := sal_run r (D ++ [q.1]) (fun k => F (k + 1)) (fun k hk => by
      obtain ⟨g0, g1⟩ := h (k + 1) (by simpa using hk)
      have e2 : (q :: r).getD (k + 1) ((0, 0), 0, 0) = r.getD k ((0, 0), 0, 0) := rfl
      have e3 : D ++ dys ((q :: r).take (k + 1)) = D ++ [q.1] ++ dys (r.take k) := by simp [dys]
      rw [e2, e3] at g0
      rw [e2] at g1
      exact ⟨g0, g1⟩)
    simpa using this
theorem sal_one {a b i n x z Y P : Int} (h1 : a ≤ x) (h2 : x < z) (h3 : z ≤ b) (h4 : b - a ≤ 366) : salVE a b i n [((x, z), Y, P)] = if amtE i n Y P = 0 then (Sh.upV (wholeV i n Y P) (z - a) (b - a) - Sh.upV (wholeV i n Y P) (x - a) (b - a), 0) else (0, amtE i n Y P) := by
  have hv : salVE a b i n [((x, z), Y, P)] = salR a b i n [((x, z), Y, P)] [] 0 := rfl
  rw [hv, salR_cons]
  by_cases he : amtE i n Y P = 0
  · have hA := amt_fit (a := a) (b := b) he h1 h2 h3
    obtain ⟨s1, s2⟩ := step_ok (a := a) (b := b) (i := i) (n := n) (D := []) (S := 0) (q := ((x, z), Y, P)) ⟨h2, h1, h3, h4⟩ rfl he (by decide) (by rw [Int.zero_add]; exact hA)
    rw [if_pos s1, s2, if_pos he, Int.zero_add, ← amt_is he]
    rfl
  · have e : stepE a b i n [] 0 ((x, z), Y, P) = amtE i n Y P := by
      have hc : chkE a b x z (anyC [] (x, z)) = 0 := by unfold chkE; rw [if_neg (by omega)]; rfl
      unfold stepE
      dsimp only
      rw [if_pos hc, if_neg he]
    rw [e, if_neg he, if_neg he]
/-- The days of a period, one by one. -/
def dayL (a Y P : Int) (m : Nat) : List Pc := (List.range m).map (fun j : Nat => ((a + (j : Int), a + (j : Int) + 1), Y, P))
theorem dayL_len (a Y P : Int) (m : Nat) : (dayL a Y P m).length = m := by simp [dayL]
theorem dayL_at {a Y P : Int} {m j : Nat} (h : j < m) : (dayL a Y P m).getD j ((0, 0), 0, 0) = ((a + (j : Int), a + (j : Int) + 1), Y, P) := by simp [dayL, List.getD, h]
theorem dayL_next (a Y P : Int) (m : Nat) : dayL a Y P (m + 1) = dayL a Y P m ++ [((a + (m : Int), a + (m : Int) + 1), Y, P)] := by
  unfold dayL; rw [List.range_succ, List.map_append]; rfl
theorem dayL_mem {a Y P : Int} {m : Nat} {q : Pc} (h : q ∈ dayL a Y P m) : ∃ j : Nat, j < m ∧ q = ((a + (j : Int), a + (j : Int) + 1), Y, P) := by
  unfold dayL at h
  obtain ⟨j, hj, rfl⟩ := List.mem_map.1 h
  exact ⟨j, List.mem_range.1 hj, rfl⟩
theorem sal_days {a b i n Y P : Int} {m : Nat} (hm : (m : Int) = b - a) (h0 : 0 < m) (h40 : m ≤ 40) (he : amtE i n Y P = 0) : salVE a b i n (dayL a Y P m) = (wholeV i n Y P, 0) := by
  have hfit := whole_fit i n Y P
  have hv : salVE a b i n (dayL a Y P m) = salR a b i n (dayL a Y P m) [] 0 := by unfold salVE; rw [if_neg (by rw [dayL_len]; omega)]
  have hz : Sh.upV (wholeV i n Y P) ((0 : Nat) : Int) (b - a) = 0 := up_no _ _ (by omega)
  have hu : Sh.upV (wholeV i n Y P) ((m : Nat) : Int) (b - a) = wholeV i n Y P := by rw [hm]; exact up_all _ _ (by omega)
  have key := sal_run (a := a) (b := b) (i := i) (n := n) (dayL a Y P m) [] (fun k => Sh.upV (wholeV i n Y P) (k : Int) (b - a)) (fun k hk => by
    rw [dayL_len] at hk
    rw [dayL_at hk, List.nil_append]
    have hA := amt_is (a := a) (b := b) (x := a + (k : Int)) (z := a + (k : Int) + 1) he
    rw [show a + (k : Int) + 1 - a = ((k + 1 : Nat) : Int) by omega, show a + (k : Int) - a = (k : Int) by omega] at hA
    have e : Sh.upV (wholeV i n Y P) (k : Int) (b - a) + amtV a b i n (a + (k : Int)) (a + (k : Int) + 1) Y P = Sh.upV (wholeV i n Y P) ((k + 1 : Nat) : Int) (b - a) := by rw [hA]; omega
    obtain ⟨s1, s2⟩ := step_ok (a := a) (b := b) (i := i) (n := n) (D := dys ((dayL a Y P m).take k)) (S := Sh.upV (wholeV i n Y P) (k : Int) (b - a)) (q := ((a + (k : Int), a + (k : Int) + 1), Y, P)) ⟨by dsimp only; omega, by dsimp only; omega, by dsimp only; omega, by omega⟩
      (by
        unfold anyC
        rw [List.any_eq_false]
        intro t ht
        unfold dys at ht
        obtain ⟨q, hq, rfl⟩ := List.mem_map.1 ht
        obtain ⟨j, hj, rfl⟩ := List.mem_take_iff_getElem.1 hq
        have hjk : j < k := by omega
        have hjm : j < m := by omega
        have e2 : (dayL a Y P m)[j]'(by rw [dayL_len]; exact hjm) = ((a + (j : Int), a + (j : Int) + 1), Y, P) := by simp [dayL]
        rw [e2]
        unfold crossB
        simp only [decide_eq_true_eq]
        omega) he (up_fit hfit (by omega) (by omega) (by omega)) (by dsimp only; rw [e]; exact up_fit hfit (by omega) (by omega) (by omega))
    dsimp only at s2
    exact ⟨s1, by rw [s2, e]⟩)
  rw [hv]
  try dsimp only at key
  rw [hz, dayL_len, hu] at key
  exact key


open Go Go.RowKit Go.Proofs

/-- Pieces of one pay, end to end, from x up to z. -/
def Chain (Y P : Int) : Int → List Pc → Int → Prop
  | x, [], z => x = z
  | x, q :: r, z => ∃ m, q = ((x, m), Y, P) ∧ x < m ∧ Chain Y P m r z
theorem Chain.snoc {Y P : Int} : ∀ {L : List Pc} {x z m : Int}, Chain Y P x L z → z < m → Chain Y P x (L ++ [((z, m), Y, P)]) m
  | [], x, z, m, h, hm => by
    obtain rfl : x = z := h
    exact ⟨m, rfl, hm, rfl⟩
  | q :: r, x, z, m, h, hm => by
    obtain ⟨y, rfl, hy, hr⟩ := h
    exact ⟨y, rfl, hy, hr.snoc hm⟩
theorem Chain.le {Y P : Int} : ∀ {L : List Pc} {x z : Int}, Chain Y P x L z → x ≤ z
  | [], x, z, h => Int.le_of_eq h
  | q :: r, x, z, h => by
    obtain ⟨m, rfl, hm, hr⟩ := h
    have := hr.le
    omega
theorem Chain.len {Y P : Int} : ∀ {L : List Pc} {x z : Int}, Chain Y P x L z → (L.length : Int) ≤ z - x
  | [], x, z, h => by obtain rfl : x = z := h; simp
  | q :: r, x, z, h => by
    obtain ⟨m, rfl, hm, hr⟩ := h
    have := hr.len
    simp only [List.length_cons]
    omega
theorem Chain.mem {Y P : Int} : ∀ {L : List Pc} {x z : Int}, Chain Y P x L z → ∀ q ∈ L, x ≤ q.1.1 ∧ q.1.1 < q.1.2 ∧ q.1.2 ≤ z
  | q :: r, x, z, h, t, ht => by
    obtain ⟨m, rfl, hm, hr⟩ := h
    have hle := hr.le
    rcases List.mem_cons.1 ht with rfl | ht
    · dsimp only; omega
    · have := hr.mem t ht; omega
theorem anyC_app' (D : List Sp.Sp) (t s : Sp.Sp) : anyC (D ++ [t]) s = (anyC D s || crossB s t) := by unfold anyC; simp [List.any_append]
theorem chain_sal {a b i n Y P : Int} (he : amtE i n Y P = 0) (hab : b - a ≤ 366) : ∀ (L : List Pc) (x z : Int) (D : List Sp.Sp), Chain Y P x L z → (∀ t ∈ D, t.2 ≤ x) → a ≤ x → z ≤ b → a < b → salR a b i n L D (Sh.upV (wholeV i n Y P) (x - a) (b - a)) = (Sh.upV (wholeV i n Y P) (z - a) (b - a), 0)
  | [], x, z, D, h, _, _, _, _ => by obtain rfl : x = z := h; rfl
  | q :: r, x, z, D, h, hD, hx, hz, hlt => by
    obtain ⟨m, rfl, hm, hr⟩ := h
    have hle := hr.le
    have hfit := whole_fit i n Y P
    have hA := amt_is (a := a) (b := b) (x := x) (z := m) he
    have e : Sh.upV (wholeV i n Y P) (x - a) (b - a) + amtV a b i n x m Y P = Sh.upV (wholeV i n Y P) (m - a) (b - a) := by rw [hA]; omega
    obtain ⟨s1, s2⟩ := step_ok (a := a) (b := b) (i := i) (n := n) (D := D) (S := Sh.upV (wholeV i n Y P) (x - a) (b - a)) (q := ((x, m), Y, P)) ⟨hm, hx, by dsimp only; omega, hab⟩
      (by
        unfold anyC
        rw [List.any_eq_false]
        intro t ht
        have := hD t ht
        unfold crossB
        simp only [decide_eq_true_eq]
        omega) he (up_fit hfit (by omega) (by omega) (by omega)) (by dsimp only; rw [e]; exact up_fit hfit (by omega) (by omega) (by omega))
    dsimp only at s2
    rw [salR_cons, if_pos s1, s2, e]
    exact chain_sal he hab r m z _ hr (fun t ht => by
      rcases List.mem_append.1 ht with ht | ht
      · have := hD t ht; omega
      · rw [List.mem_singleton.1 ht]; exact Int.le_refl _) (by omega) hz hlt
/-- Pieces that lie end to end from the period's first day to its end are the period's amount. -/
theorem chain_whole {a b i n Y P : Int} {L : List Pc} (he : amtE i n Y P = 0) (hab : b - a ≤ 64) (hlt : a < b) (h : Chain Y P a L b) : salVE a b i n L = (wholeV i n Y P, 0) := by
  have hl := h.len
  have hv : salVE a b i n L = salR a b i n L [] 0 := by unfold salVE; rw [if_neg (by omega)]
  have key := chain_sal (a := a) (b := b) he (by omega) L a b [] h (fun t ht => by cases ht) (Int.le_refl _) (Int.le_refl _) hlt
  rw [show a - a = 0 by omega, up_no _ _ (by omega), up_all _ _ (by omega)] at key
  rw [hv, key]
/-- By its whole part a year's amount is itself. -/
theorem of_whole {y : Int} (h1 : -1125899906842624 ≤ y) (h2 : y ≤ 1125899906842624) : Ra.ofVE y 1000000 1 = (y, 0) := by
  have hf : Ra.fitsB y = true := Ra.fitsB_iff.2 ⟨h1, h2⟩
  rw [show Ra.ofVE y 1000000 1 = Ra.partVE y 1000000 1000000 1 from rfl, Ra.partVE_val _ _ _ _ hf (by decide) (by decide) (by decide)]
  have := Ra.rnd_exact 1 (Int.toNat 1000000) (by decide) y
  rw [show ((Int.toNat 1000000 : Nat) : Int) = 1000000 from rfl] at this
  rw [this, if_pos (by omega)]
theorem whole_is {y i n : Int} (h1 : -1125899906842624 ≤ y) (h2 : y ≤ 1125899906842624) (h3 : 1 ≤ i) (h4 : i ≤ n) (h5 : n ≤ 1125899906842624) : amtE i n y 1000000 = 0 ∧ wholeV i n y 1000000 = perV y i n ∧ perE y i n = 0 ∧ perV y i n = Sh.upV y i n - Sh.upV y (i - 1) n := by
  have hf : Sh.fitB y = true := fit_iff.2 ⟨h1, h2⟩
  have e0 : perE y i n = 0 ∧ perV y i n = Sh.upV y i n - Sh.upV y (i - 1) n := by
    unfold perE perV
    rw [if_neg (by omega), if_neg (by omega)]
    exact bet_is hf (by omega) h5 (by omega) (by omega) h4
  refine ⟨?_, ?_, e0⟩
  · unfold amtE
    rw [of_whole h1 h2, if_pos rfl]
    exact e0.1
  · unfold wholeV
    rw [of_whole h1 h2]

end Go.Proofs.YtogdiiengbmiiaaDoor
