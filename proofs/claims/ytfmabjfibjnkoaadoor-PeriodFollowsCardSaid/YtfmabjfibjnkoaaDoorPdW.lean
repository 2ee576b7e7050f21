/-
  What is proved: plain facts on the periods of a year, one behind the other: neighbours touch, behind the last one begins the next year's first one, how they are numbered, and how many there are. Conditions: none.
-/
import Derived.Test.YtfmabjfibjnkoaaDoorPdV
namespace Go.Proofs.YtfmabjfibjnkoaaDoor
open Go Go.RowKit Go.Proofs
set_option linter.unusedVariables false

theorem fol_ends {k f y a b : Int} {K : List (Int × Int)} (h : IsYear k f y K) {i : Nat} (hi : i < K.length) (e : K.getD i (0, 0) = (a, b)) : Ends k f y a b := by
  rw [getD_ix2 hi] at e
  have := (h.2 K[i]).1 (List.getElem_mem hi)
  rw [e] at this
  exact this
theorem fol_lt {k f y a b a' b' : Int} {K : List (Int × Int)} (h : IsYear k f y K) {i j : Nat} (hij : i < j) (hj : j < K.length) (e : K.getD i (0, 0) = (a, b)) (e' : K.getD j (0, 0) = (a', b')) : a < a' := by
  have hi : i < K.length := by omega
  rw [getD_ix2 hi] at e
  rw [getD_ix2 hj] at e'
  have := List.pairwise_iff_getElem.1 h.1 i j hi hj hij
  rw [e, e'] at this
  exact this
theorem fol_own {k f l y a b : Int} {K : List (Int × Int)} (hc : chkC k f l = 0) (y1 : 1900 ≤ y) (y2 : y ≤ 2199) (h : IsYear k f y K) {i : Nat} (hi : i < K.length) (e : K.getD i (0, 0) = (a, b)) :
    Owned k f l y ((i + 1 : Nat) : Int) (K.length : Int) a b (payV b l) :=
  ⟨hc, y1, y2, K, h, i, hi, rfl, rfl, e, rfl⟩
theorem fol_touch {k f l y a b a' b' : Int} {K : List (Int × Int)} (hc : chkC k f l = 0) (h : IsYear k f y K) {i : Nat} (hi : i + 1 < K.length) (e : K.getD i (0, 0) = (a, b)) (e' : K.getD (i + 1) (0, 0) = (a', b')) : b = a' := by
  obtain ⟨hk, -, -, -⟩ := chkC_zero hc
  have E := fol_ends h (by omega) e
  have E' := fol_ends h hi e'
  have hlt := fol_lt h (Nat.lt_succ_self i) hi e e'
  have hap := Blk.apart E.1 E'.1 hlt
  have L := E.1.len
  have L' := E'.1.len
  by_cases hba : b = a'
  · exact hba
  exfalso
  obtain ⟨q1, q2, q3, q4⟩ := E.2
  obtain ⟨r1, r2, r3, r4⟩ := E'.2
  obtain ⟨c, d, hB, h1, h2⟩ := Blk.at (f := f) (d := b) hk (by omega) (by omega)
  have hcb : c = b := by
    by_cases g : c = b
    · exact g
    · have := Blk.one (d := b - 1) hB E.1 (by omega) (by omega) (by omega) (by omega)
      omega
  subst hcb
  have hd := Blk.apart hB E'.1 (by omega)
  have LB := hB.len
  obtain ⟨m, hm, em, -⟩ := year_idx h (show Ends k f y c d from ⟨hB, by omega, by omega, by omega, by omega⟩)
  rcases Nat.lt_trichotomy m i with g | rfl | g
  · have := fol_lt h g (by omega) em e
    omega
  · rw [e] at em
    injection em
    omega
  · rcases Nat.lt_or_ge m (i + 1) with g2 | g2
    · omega
    · rcases Nat.lt_or_eq_of_le g2 with g3 | rfl
      · have := fol_lt h g3 hm e' em
        omega
      · rw [e'] at em
        injection em
        omega
/-- What Next tells of an own period, but where the year's last one is asked. -/
theorem fol_next {k f l y a b a2 b2 y' i' n' a' b' p' E : Int} {K : List (Int × Int)} (hc : chkC k f l = 0) (y1 : 1900 ≤ y) (y2 : y ≤ 2199) (h : IsYear k f y K) {i : Nat} (hi : i + 1 < K.length) (e : K.getD i (0, 0) = (a, b)) (e2 : K.getD (i + 1) (0, 0) = (a2, b2))
    (hN : NextR k f l y ((i + 1 : Nat) : Int) (K.length : Int) a b (payV b l) y' i' n' a' b' p' E) : E = 0 ∧ y' = y ∧ i' = ((i + 1 + 1 : Nat) : Int) ∧ n' = (K.length : Int) ∧ a' = a2 ∧ b' = b2 ∧ p' = payV b2 l := by
  have hO := fol_own (l := l) hc y1 y2 h (by omega) e
  have hO2 := fol_own (l := l) hc y1 y2 h hi e2
  have hb := fol_touch hc h hi e e2
  have L := (fol_ends h hi e2).1.len
  have hF := OwnP.found hc hO2.2 (d := b) (by omega) (by omega)
  rcases hN with ⟨h0, -⟩ | ⟨-, h0, -⟩ | ⟨-, ⟨z0, z1, z2, z3, z4, z5, z6, hz, hne⟩, -⟩ | ⟨-, hz, rfl⟩
  · exact absurd hc h0
  · exact absurd hO h0
  · exact absurd (hz.one hF).2.2.2.2.2.2 hne
  · obtain ⟨g0, g1, g2, g3, g4, g5, -⟩ := hz.one hF
    exact ⟨rfl, g0, g1, g2, g3, g4, g5⟩
/-- Behind the year's last period begins the next year's first one. -/
theorem fol_last {k f l y a b y' i' n' a' b' p' E : Int} {K : List (Int × Int)} (hc : chkC k f l = 0) (y1 : 1900 ≤ y) (y2 : y < 2199) (h : IsYear k f y K) {i : Nat} (hi : i + 1 = K.length) (e : K.getD i (0, 0) = (a, b))
    (hN : NextR k f l y ((i + 1 : Nat) : Int) (K.length : Int) a b (payV b l) y' i' n' a' b' p' E) : E = 0 ∧ y' = y + 1 ∧ i' = 1 ∧ a' = b ∧ Owned k f l (y + 1) 1 n' b b' p' := by
  obtain ⟨hk, -, -, -⟩ := chkC_zero hc
  have hO := fol_own (l := l) hc y1 (by omega) h (by omega) e
  have En := fol_ends h (by omega) e
  have L := En.1.len
  obtain ⟨q1, q2, q3, q4⟩ := En.2
  have J1 := jan_y (y := y) y1 (by omega)
  have J2 := jan_y (y := y + 1) (by omega) (by omega)
  obtain ⟨c, d, hB, h1, h2⟩ := Blk.at (f := f) (d := b) hk (by omega) (by omega)
  have hcb : c = b := by
    by_cases g : c = b
    · exact g
    · have := Blk.one (d := b - 1) hB En.1 (by omega) (by omega) (by omega) (by omega)
      omega
  subst hcb
  have LB := hB.len
  have hd : jan (y + 1) < d := by
    rcases Int.lt_or_le (jan (y + 1)) d with g | g
    · exact g
    · exfalso
      obtain ⟨m, hm, em, -⟩ := year_idx h (show Ends k f y c d from ⟨hB, by omega, by omega, by omega, by omega⟩)
      rcases Nat.lt_trichotomy m i with g2 | rfl | g2
      · have := fol_lt h g2 (by omega) em e
        omega
      · rw [e] at em
        injection em
        omega
      · omega
  have EN : Ends k f (y + 1) c d := ⟨hB, by omega, by omega, hd, by omega⟩
  have key : ∀ {y' i' n' a' b' p' : Int}, FindR k f l c y' i' n' a' b' p' 0 → y' = y + 1 ∧ i' = 1 ∧ a' = c ∧ Owned k f l (y + 1) 1 n' c b' p' := by
    intro y' i' n' a' b' p' hF
    obtain ⟨-, -, hP, g1, g2⟩ := hF.own rfl
    have hOw : Owned k f l y' i' n' a' b' p' := ⟨hc, hP⟩
    obtain ⟨z1, z2, K', hK', j, hj, rfl, rfl, ej, rfl⟩ := hP
    have Ej := fol_ends hK' hj ej
    obtain ⟨rfl, rfl⟩ := Blk.one Ej.1 hB g1 g2 (Int.le_refl _) (by omega)
    have hy : y' = y + 1 := year_one (d := b' - 1) (by have := Ej.2.2.2.1; omega) (by have := Ej.2.2.2.2; omega) (by omega) (by have := EN.2.2.2.2; omega)
    subst hy
    have hj0 : j = 0 := by
      rcases Nat.eq_zero_or_pos j with g | g
      · exact g
      · exfalso
        obtain ⟨⟨a0, b0⟩, e0⟩ : ∃ s, K'.getD 0 (0, 0) = s := ⟨_, rfl⟩
        have E0 := fol_ends hK' (by omega) e0
        have l0 := fol_lt hK' g hj e0 ej
        have ap := Blk.apart E0.1 Ej.1 l0
        have := E0.2.2.2.1
        omega
    subst hj0
    exact ⟨rfl, rfl, rfl, hOw⟩
  rcases hN with ⟨h0, -⟩ | ⟨-, h0, -⟩ | ⟨-, ⟨z0, z1, z2, z3, z4, z5, z6, hz, hne⟩, -⟩ | ⟨-, hz, rfl⟩
  · exact absurd hc h0
  · exact absurd hO h0
  · exfalso
    rcases hz with ⟨h0, -⟩ | ⟨-, h0, -⟩ | ⟨-, -, ⟨u, v, hu, u1, u2, hw⟩, -⟩ | ⟨-, -, -, -, -, h0⟩
    · exact absurd hc h0
    · have := inB_of EN (d := c) (Int.le_refl _) (by omega)
      rw [h0] at this
      cases this
    · obtain ⟨rfl, rfl⟩ := Blk.one hu hB u1 u2 (Int.le_refl _) (by omega)
      have w1 := inB_of EN (d := u) (Int.le_refl _) (by omega)
      have w2 := inB_of EN (d := v - 1) (by omega) (by omega)
      unfold wholeB at hw
      rw [w1, w2] at hw
      cases hw
    · exact hne h0
  · exact ⟨rfl, key hz⟩
/-- How a year's periods are numbered. -/
theorem fol_ix {k f l y : Int} {K : List (Int × Int)} (hc : chkC k f l = 0) (y1 : 1900 ≤ y) (y2 : y ≤ 2199) (h : IsYear k f y K) : ∃ I0 : Int, ∀ (i : Nat) (a b : Int), i < K.length → K.getD i (0, 0) = (a, b) → IxIs k f y ((i + 1 : Nat) : Int) a (I0 + i) := by
  obtain ⟨hk, -, -, -⟩ := chkC_zero hc
  rcases Nat.eq_zero_or_pos K.length with g | g
  · exact ⟨0, fun i a b hi => by omega⟩
  obtain ⟨⟨a0, b0⟩, e0⟩ : ∃ s, K.getD 0 (0, 0) = s := ⟨_, rfl⟩
  obtain ⟨I0, hI⟩ := owned_ix (fol_own (l := l) hc y1 y2 h g e0)
  refine ⟨I0, fun i => ?_⟩
  induction i with
  | zero =>
    intro a b hi e
    rw [e0] at e
    injection e with e1 e2
    subst e1
    simpa using hI
  | succ i ih =>
    intro a b hi e
    obtain ⟨⟨a1, b1⟩, e1⟩ : ∃ s, K.getD i (0, 0) = s := ⟨_, rfl⟩
    have h1 := ih a1 b1 (by omega) e1
    have ht := fol_touch hc h hi e1 e
    have hO := fol_own (l := l) hc y1 y2 h hi e
    have hE := fol_ends h (by omega) e1
    rcases h1 with ⟨rfl, h1, h2, h3⟩ | ⟨rfl, h1⟩ | ⟨rfl, h1⟩
    · have := owned_len hO
      exact .inl ⟨rfl, by omega, by omega, by omega⟩
    · rcases hE.1 with ⟨h0, -⟩ | ⟨-, h2, -⟩
      · omega
      · exact .inr (.inl ⟨rfl, by omega⟩)
    · rcases hE.1 with ⟨h0, -⟩ | ⟨-, h2, -⟩
      · omega
      · exact .inr (.inr ⟨rfl, by omega⟩)
/-- How many periods a year has. -/
theorem fol_len {k f l y : Int} {K : List (Int × Int)} (hc : chkC k f l = 0) (y1 : 1900 ≤ y) (y2 : y ≤ 2199) (h : IsYear k f y K) : 12 ≤ K.length ∧ K.length ≤ 27 := by
  obtain ⟨hk, -, -, -⟩ := chkC_zero hc
  by_cases k0 : k = 0
  · subst k0
    rw [h.one (month_list f y y1 y2)]
    simp
  have J1 := jan_y (y := y) y1 y2
  have hne : 0 < K.length := by
    obtain ⟨c, d, hB, h1, h2⟩ := Blk.at (f := f) (d := jan y + 40) hk (by omega) (by omega)
    have := hB.len
    obtain ⟨m, hm, -⟩ := year_idx h (show Ends k f y c d from ⟨hB, by omega, by omega, by omega, by omega⟩)
    omega
  obtain ⟨I0, hI⟩ := fol_ix (l := l) hc y1 y2 h
  obtain ⟨⟨a0, b0⟩, e0⟩ : ∃ s, K.getD 0 (0, 0) = s := ⟨_, rfl⟩
  obtain ⟨⟨a1, b1⟩, e1⟩ : ∃ s, K.getD (K.length - 1) (0, 0) = s := ⟨_, rfl⟩
  have E0 := fol_ends h hne e0
  have E1 := fol_ends h (by omega) e1
  have i0 := hI 0 a0 b0 hne e0
  have i1 := hI (K.length - 1) a1 b1 (by omega) e1
  obtain ⟨p1, p2, p3, p4⟩ := E0.2
  obtain ⟨q1, q2, q3, q4⟩ := E1.2
  have L0 := E0.1.len
  have L1 := E1.1.len
  have jd : jan (y + 1) ≤ jan y + 366 := by have := jan_succ y; have := cum_end y; have := cum_bd y 13; omega
  -- the span ahead of the first one
  have lo : a0 < jan y + 14 * k := by
    rcases Int.lt_or_le a0 (jan y + 14 * k) with g | g
    · exact g
    · exfalso
      have hB : Blk k f (a0 - 14 * k) a0 := by
        rcases E0.1 with ⟨h0, -⟩ | ⟨hk', h2, h3⟩
        · omega
        · refine .inr ⟨hk', by omega, ?_⟩
          rcases hk' with rfl | rfl <;> omega
      obtain ⟨m, hm, em, -⟩ := year_idx h (show Ends k f y (a0 - 14 * k) a0 from ⟨hB, by rcases hk with rfl | rfl | rfl <;> omega, by omega, by rcases hk with rfl | rfl | rfl <;> omega, by have := E0.1.len; omega⟩)
      rcases Nat.eq_zero_or_pos m with rfl | g2
      · rw [e0] at em
        injection em
        rcases hk with rfl | rfl | rfl <;> omega
      · have := fol_lt h g2 hm e0 em
        rcases hk with rfl | rfl | rfl <;> omega
  -- the span behind the last one
  have hi : jan (y + 1) < b1 + 14 * k := by
    rcases Int.lt_or_le (jan (y + 1)) (b1 + 14 * k) with g | g
    · exact g
    · exfalso
      have hB : Blk k f b1 (b1 + 14 * k) := by
        rcases E1.1 with ⟨h0, -⟩ | ⟨hk', h2, h3⟩
        · omega
        · refine .inr ⟨hk', by omega, ?_⟩
          rcases hk' with rfl | rfl <;> omega
      have := E1.1.len
      obtain ⟨m, hm, em, -⟩ := year_idx h (show Ends k f y b1 (b1 + 14 * k) from ⟨hB, by omega, by omega, by rcases hk with rfl | rfl | rfl <;> omega, by omega⟩)
      rcases Nat.lt_or_ge m (K.length - 1) with g2 | g2
      · have := fol_lt h g2 (by omega) em e1
        omega
      · have hm1 : m = K.length - 1 := by omega
        rw [hm1, e1] at em
        injection em
        omega
  rcases hk with rfl | rfl | rfl
  · omega
  · rcases E1.1 with ⟨h0, -⟩ | ⟨-, h2, -⟩
    · omega
    rcases E0.1 with ⟨h0, -⟩ | ⟨-, h3, -⟩
    · omega
    rcases i0 with ⟨h0, -⟩ | ⟨-, i0⟩ | ⟨h0, -⟩
    · omega
    · rcases i1 with ⟨h0, -⟩ | ⟨-, i1⟩ | ⟨h0, -⟩ <;> omega
    · omega
  · rcases E1.1 with ⟨h0, -⟩ | ⟨-, h2, -⟩
    · omega
    rcases E0.1 with ⟨h0, -⟩ | ⟨-, h3, -⟩
    · omega
    rcases i0 with ⟨h0, -⟩ | ⟨h0, -⟩ | ⟨-, i0⟩
    · omega
    · omega
    · rcases i1 with ⟨h0, -⟩ | ⟨h0, -⟩ | ⟨-, i1⟩ <;> omega

end Go.Proofs.YtfmabjfibjnkoaaDoor
