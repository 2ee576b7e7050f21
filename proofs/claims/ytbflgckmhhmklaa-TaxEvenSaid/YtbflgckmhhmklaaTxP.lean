/-
  What is proved: plain facts on a year of equal periods: the sums to date, and that two periods differ by at most a cent. Conditions: as there.
-/
import Derived.Test.YtbflgckmhhmklaaTxN
namespace Go.Proofs.Ytbflgckmhhmklaa
open Go Go.RowKit
set_option linter.unusedVariables false

theorem min_mul {a b i : Int} (hi : 1 ≤ i) : min (a * i) (b * i) = min a b * i := by
  rcases Int.le_total a b with h | h
  · have := Int.mul_le_mul_of_nonneg_right h (show (0 : Int) ≤ i by omega)
    rw [show min a b = a by omega]; omega
  · have := Int.mul_le_mul_of_nonneg_right h (show (0 : Int) ≤ i by omega)
    rw [show min a b = b by omega]; omega
theorem max_mul {a i : Int} (hi : 1 ≤ i) : max 0 (a * i) = max 0 a * i := by
  rcases Int.le_total 0 a with h | h
  · have := Int.mul_nonneg h (show (0 : Int) ≤ i by omega)
    rw [show max 0 a = a by omega]; omega
  · have : a * i ≤ 0 := Int.mul_nonpos_of_nonpos_of_nonneg h (by omega)
    rw [show max 0 a = 0 by omega]; omega
theorem part_scale (f : Nat → Bd) (n : Nat) (z : Int) {i : Int} (hi : 1 ≤ i) (j : Nat) : partV f n (z * i) i j = partV f n z 1 j * i := by
  have e : toV f n (z * i) i j = toV f n z 1 j * i := by
    unfold toV
    split
    · rw [min_mul hi, Int.mul_one]
    · rfl
  unfold partV
  rw [e, ← Int.sub_mul, max_mul hi, Int.mul_one]
theorem parts_scale (f : Nat → Bd) (n : Nat) (z : Int) {i : Int} (hi : 1 ≤ i) : ∀ j, parts f n (z * i) i j = parts f n z 1 j * i
  | 0 => by show (0 : Int) = 0 * i; rw [Int.zero_mul]
  | j + 1 => by
    show parts f n (z * i) i j + (f j).2 * partV f n (z * i) i j = (parts f n z 1 j + (f j).2 * partV f n z 1 j) * i
    rw [parts_scale f n z hi j, part_scale f n z hi j, Int.add_mul, Int.mul_assoc]
theorem takes_scale {f : Nat → Bd} {n : Nat} (hr : Rises f n) (z : Int) {i : Int} (hi : 1 ≤ i) : takesV f n (z * i) i = takesV f n z 1 * i := by
  rw [takes_parts hr hi, takes_parts hr (Int.le_refl 1), parts_scale f n z hi]
theorem div_step (N t D : Int) (hD : 0 < D) : N / D + t / D ≤ (N + t) / D ∧ (N + t) / D ≤ N / D + t / D + 1 := by
  have e1 := Int.mul_ediv_add_emod N D
  have e2 := Int.mul_ediv_add_emod t D
  have l1 := Int.emod_nonneg N (show D ≠ 0 by omega)
  have l2 := Int.emod_nonneg t (show D ≠ 0 by omega)
  have m1 := Int.emod_lt_of_pos N hD
  have m2 := Int.emod_lt_of_pos t hD
  have e3 : N + t = D * (N / D + t / D) + (N % D + t % D) := by rw [Int.mul_add]; omega
  rw [e3, div_near D (N / D + t / D) (N % D + t % D) hD (by omega) (by omega)]
  split <;> omega
theorem round_step (s t of : Int) (ho : 1 ≤ of) : roundT s of + t / (of * 1000000) ≤ roundT (s + t) of ∧ roundT (s + t) of ≤ roundT s of + t / (of * 1000000) + 1 := by
  unfold roundT
  rw [show s + t + of * 500000 = (s + of * 500000) + t by omega]
  exact div_step _ _ _ (by omega)
/-- Tax to date by a right table: what it is. -/
theorem tod_is2 {base idx of al ex : Int} {f : Nat → Bd} {n : Nat} (hn : n ≤ 64) (hr : Rises f n) (h : okT base idx of al ex = true) :
    todE base idx of al ex f n = 0 ∧ todV base idx of al ex f n = roundT (takesV f n (base * of - al * idx) idx) of ∧ 0 ≤ todV base idx of al ex f n ∧ todV base idx of al ex f n ≤ max base 0 := by
  obtain ⟨⟨i0, i1, o1⟩, ⟨-, hb⟩, ⟨a0, -⟩, -⟩ := okT_iff.1 h
  obtain ⟨-, ⟨k0, -⟩⟩ := taxed_bd h
  have hc := chkT_zero hn hr
  obtain ⟨t0, t1⟩ := takes_bd hr (x := base * of - al * idx) i0
  have h1 := round_mono (of := of) (by omega) t0
  rw [round_nil of (by omega)] at h1
  have hm : max (base * of - al * idx) 0 ≤ of * max base 0 := by
    rcases Int.le_total base 0 with h2 | h2
    · have : base * of ≤ 0 := Int.mul_nonpos_of_nonpos_of_nonneg h2 (by omega)
      rw [show max base 0 = 0 by omega]; omega
    · have : 0 ≤ base * of := Int.mul_nonneg h2 (by omega)
      rw [show max base 0 = base by omega, Int.mul_comm of base]; omega
  have h2 : roundT (takesV f n (base * of - al * idx) idx) of ≤ max base 0 := by
    have h3 := round_mono (of := of) (by omega) (show takesV f n (base * of - al * idx) idx ≤ 0 + of * 1000000 * max base 0 by
      rw [show of * 1000000 * max base 0 = 1000000 * (of * max base 0) by rw [Int.mul_comm of 1000000, Int.mul_assoc]]; omega)
    rw [round_add 0 (max base 0) of (by omega), round_nil of (by omega)] at h3
    omega
  have hE : todE base idx of al ex f n = 0 := by
    unfold todE scE scaledE
    rw [if_pos h, if_pos hc, if_pos (by omega)]
  have hV : todV base idx of al ex f n = roundT (takesV f n (base * of - al * idx) idx) of := by
    unfold todV scV scaledV
    rw [if_pos h, if_pos hc, if_pos (by omega)]
  exact ⟨hE, hV, by omega, by omega⟩

/-- A year of equal periods. -/
theorem even_all {base m al ex : Int} {f : Nat → Bd} {n : Nat} (hc : Rc al ex f n) (b0 : 0 ≤ base) (b1 : base ≤ 1099511627776) (m0 : 1 ≤ m) (m1 : m ≤ 60) :
    ∃ (T : Nat → Int) (Q : Int), T 0 = 0 ∧ 0 ≤ Q ∧ Q ≤ 1125899906842624 ∧ sngE base m al ex f n = 0 ∧ sngV base m al ex f n = T 1 + ex ∧ ∀ k : Nat, (k : Int) < m →
      stpE ((k : Int) * base) (T k) base ((k : Int) + 1) m al ex f n = 0 ∧ stpV ((k : Int) * base) (T k) base ((k : Int) + 1) m al ex f n = (((k : Int) + 1) * base, T (k + 1), T (k + 1) - T k + ex) ∧ Q ≤ T (k + 1) - T k ∧ T (k + 1) - T k ≤ Q + 1 := by
  obtain ⟨hn, hr, -, ⟨a0, a1⟩, x0, x1⟩ := hc
  obtain ⟨t, ht⟩ : ∃ t, t = takesV f n (base * m - al) 1 := ⟨_, rfl⟩
  have ht0 : 0 ≤ t := by rw [ht]; exact (takes_bd hr (Int.le_refl 1)).1
  have kb : ∀ k : Nat, (k : Int) ≤ m → 0 ≤ (k : Int) * base ∧ (k : Int) * base ≤ 65970697666560 := fun k hk => by
    have h1 : 0 ≤ (k : Int) * base := Int.mul_nonneg (by omega) b0
    have h2 : (k : Int) * base ≤ 60 * base := Int.mul_le_mul_of_nonneg_right (by omega) b0
    exact ⟨h1, by omega⟩
  have tk : ∀ k : Nat, (k : Int) < m → todE (((k : Int) + 1) * base) ((k : Int) + 1) m al ex f n = 0 ∧ todV (((k : Int) + 1) * base) ((k : Int) + 1) m al ex f n = roundT (t * ((k : Int) + 1)) m ∧ 0 ≤ roundT (t * ((k : Int) + 1)) m ∧ roundT (t * ((k : Int) + 1)) m ≤ 65970697666560 := fun k hk => by
    have h1 := kb (k + 1) (by omega)
    rw [show ((k + 1 : Nat) : Int) = (k : Int) + 1 from rfl] at h1
    obtain ⟨e1, e2, e3, e4⟩ := tod_is2 (al := al) (ex := ex) hn hr (base := ((k : Int) + 1) * base) (idx := (k : Int) + 1) (of := m) (okT_iff.2 ⟨⟨by omega, by omega, by omega⟩, ⟨by omega, by omega⟩, ⟨by omega, by omega⟩, by omega, by omega⟩)
    have e5 : ((k : Int) + 1) * base * m - al * ((k : Int) + 1) = (base * m - al) * ((k : Int) + 1) := by
      rw [Int.sub_mul, Int.mul_assoc, Int.mul_comm ((k : Int) + 1) (base * m)]
    rw [e5, takes_scale hr _ (by omega), ← ht] at e2
    refine ⟨e1, e2, by omega, by omega⟩
  have q0 : 0 ≤ t / (m * 1000000) := Int.ediv_nonneg ht0 (by omega)
  have st : ∀ k : Nat, roundT (t * (k : Int)) m + t / (m * 1000000) ≤ roundT (t * ((k : Int) + 1)) m ∧ roundT (t * ((k : Int) + 1)) m ≤ roundT (t * (k : Int)) m + t / (m * 1000000) + 1 := fun k => by
    rw [show t * ((k : Int) + 1) = t * (k : Int) + t by rw [Int.mul_add, Int.mul_one]]
    exact round_step _ _ _ m0
  have T0 : roundT (t * ((0 : Nat) : Int)) m = 0 := by
    rw [show t * ((0 : Nat) : Int) = 0 from Int.mul_zero t]; exact round_nil m m0
  have Tb : ∀ k : Nat, (k : Int) ≤ m → 0 ≤ roundT (t * (k : Int)) m ∧ roundT (t * (k : Int)) m ≤ 65970697666560 := fun k hk => by
    cases k with
    | zero => rw [T0]; omega
    | succ k =>
      obtain ⟨-, -, h1, h2⟩ := tk k (by omega)
      exact ⟨h1, h2⟩
  have q1 : t / (m * 1000000) ≤ 1125899906842624 := by
    have h1 := (st 0).1
    have h2 := (Tb 1 (by omega)).2
    rw [T0] at h1
    rw [show ((0 : Nat) : Int) + 1 = ((1 : Nat) : Int) from rfl] at h1
    omega
  have hs := tk 0 (by omega)
  rw [show ((0 : Nat) : Int) + 1 = 1 from rfl, Int.one_mul] at hs
  obtain ⟨s1, s2, s3, s4⟩ := hs
  refine ⟨fun k => roundT (t * (k : Int)) m, t / (m * 1000000), T0, q0, q1, ?_, ?_, fun k hk => ?_⟩
  · unfold sngE
    rw [if_pos s1, if_pos (fitsB_iff.2 (by omega))]
  · have hE : sngE base m al ex f n = 0 := by
      unfold sngE
      rw [if_pos s1, if_pos (fitsB_iff.2 (by omega))]
    unfold sngV
    rw [if_pos hE, s2]; rfl
  · obtain ⟨e1, e2, e3, e4⟩ := tk k hk
    obtain ⟨f1, f2⟩ := Tb k (by omega)
    obtain ⟨g1, g2⟩ := st k
    obtain ⟨c1, c2⟩ := kb k (by omega)
    have c3 : (k : Int) * base + base = ((k : Int) + 1) * base := by rw [Int.add_mul, Int.one_mul]
    have hE : stpE ((k : Int) * base) (roundT (t * (k : Int)) m) base ((k : Int) + 1) m al ex f n = 0 := by
      unfold stpE rgtB
      rw [c3, e1, e2, fitsB_iff.2 (show -1125899906842624 ≤ (k : Int) * base ∧ (k : Int) * base ≤ 1125899906842624 by omega), fitsB_iff.2 (show -1125899906842624 ≤ roundT (t * (k : Int)) m ∧ roundT (t * (k : Int)) m ≤ 1125899906842624 by omega),
        fitsB_iff.2 (show -1125899906842624 ≤ base ∧ base ≤ 1125899906842624 by omega), fitsB_iff.2 (show -1125899906842624 ≤ ((k : Int) + 1) * base ∧ ((k : Int) + 1) * base ≤ 1125899906842624 by omega),
        fitsB_iff.2 (show -1125899906842624 ≤ roundT (t * ((k : Int) + 1)) m - roundT (t * (k : Int)) m + ex ∧ roundT (t * ((k : Int) + 1)) m - roundT (t * (k : Int)) m + ex ≤ 1125899906842624 by omega)]
      rfl
    refine ⟨hE, ?_, by show _ ≤ roundT (t * ((k : Int) + 1)) m - roundT (t * (k : Int)) m; omega, by show roundT (t * ((k : Int) + 1)) m - roundT (t * (k : Int)) m ≤ _; omega⟩
    unfold stpV
    rw [if_pos hE, c3, e2]; rfl

end Go.Proofs.Ytbflgckmhhmklaa
