/-
  What is proved: the walk of the statement CivilForth: the call returns true. Conditions: the table of months' lengths reads as its text lays it.
-/
import Derived.Test.YtajhabnepodpbaaDoorCivWalk
namespace Go.Proofs.YtajhabnepodpbaaDoor
open Go Go.RowKit Go.Proofs
set_option linter.unusedVariables false

/-- Months forth, and back. -/
theorem forth_back {y m d k : Int} (h : okB y m d = true) (h1 : ¬ k < -monN y m) (h2 : ¬ 3600 - monN y m ≤ k) :
    ∃ y' m' d' D, okB y' m' d' = true ∧ addM y m d k = num y' m' d' ∧ okB y m D = true ∧ addM y' m' d' (-k) = num y m D ∧ (D = d ∨ (28 < d ∧ D < d ∧ 28 ≤ D)) := by
  obtain ⟨a, b, c, e, f, g⟩ := okB_iff.1 h
  have hok := add_ok h h1 h2
  obtain ⟨y', hy⟩ : ∃ y', y' = 1900 + (monN y m + k) / 12 := ⟨_, rfl⟩
  obtain ⟨m', hm⟩ : ∃ m', m' = (monN y m + k) % 12 + 1 := ⟨_, rfl⟩
  rw [← hy, ← hm] at hok
  have hmb := monN_bd a b c e
  have e0 : monN y' m' = monN y m + k := by unfold monN at *; omega
  have n1 : ¬ -k < -monN y' m' := by omega
  have n2 : ¬ 3600 - monN y' m' ≤ -k := by omega
  have hok2 := add_ok hok n1 n2
  have e1 : 1900 + (monN y' m' + -k) / 12 = y := by rw [e0]; unfold monN; omega
  have e2 : (monN y' m' + -k) % 12 + 1 = m := by rw [e0]; unfold monN; omega
  rw [e1, e2] at hok2
  refine ⟨y', m', min d (dim y' m'), min (min d (dim y' m')) (dim y m), hok, ?_, hok2, ?_, ?_⟩
  · unfold addM; rw [if_neg h1, if_neg h2, ← hy, ← hm]
  · unfold addM; rw [if_neg n1, if_neg n2, e1, e2]
  · have := dim_bd y' m'
    omega

theorem addM_first {y m d k : Int} (h : k < -monN y m) : addM y m d k = -25567 := by unfold addM; rw [if_pos h]
theorem addM_last {y m d k : Int} (h1 : ¬ k < -monN y m) (h : 3600 - monN y m ≤ k) : addM y m d k = 84005 := by unfold addM; rw [if_neg h1, if_pos h]

set_option maxHeartbeats 1000000 in
set_option maxRecDepth 100000 in
/-- Where the months lead to an end of the calendar. -/
theorem forth_end (n q P : Int) (n1 : 0 ≤ n) (n2 : n ≤ 4294967295) (q1 : -32768 ≤ q) (q2 : q ≤ 32767) (y m d N K : Int) (hok : okB y m d = true) (hnum : num y m d = N) (hN : N = -25567 + n % 109573) (hK : K = q.tmod 1200) (hP : addM y m d K = P) (hend : P = -25567 ∨ P = 84005) (w : World) (hL : Len w) :
    Calls Tryd.prog 9 #[.int .u32 n, .int .i16 q] w fun e w' => e = .returned (.bool true) ∧ Below w.heap.size w w' := by
  have k1 : -1200 < K := by rw [hK]; have := Int.tmod_lt_of_pos (-q) (show (0 : Int) < 1200 by decide); rw [Int.neg_tmod] at this; omega
  have k2 : K < 1200 := by rw [hK]; exact Int.tmod_lt_of_pos q (by decide)
  have e0 : -25567 + n % 109573 = N := hN.symm
  have e1 : q.tmod 1200 = K := hK.symm
  have HA := add_yes y m d N K hok hnum (by omega) (by omega)
  rw [hP] at HA
  have HA := Lib.hid HA
  have b1 : -25567 ≤ N := by omega
  have b2 : N ≤ 84005 := by omega
  clear hN hK hok hnum hP
  rcases hend with rfl | rfl
  all_goals
    go_enter Tryd.func9, Tryd.ntmps9
    go_wp2_with fail
    refine (HA.out _ hL).mono ?_
    rintro e w1 ⟨rfl, hb1⟩
    go_wp2_with fail
    refine (awake_on hL hb1 (Nat.le_refl _) hb1.size).mono ?_
    rintro e w4 ⟨rfl, hb4⟩
    go_wp2
    go_ret
    exact ⟨rfl, hb4⟩

set_option maxHeartbeats 1000000 in
set_option maxRecDepth 100000 in
/-- Where they don't. -/
theorem forth_mid (n q P : Int) (n1 : 0 ≤ n) (n2 : n ≤ 4294967295) (q1 : -32768 ≤ q) (q2 : q ≤ 32767) (y m d N K y' m' d' D : Int) (hok : okB y m d = true) (hnum : num y m d = N) (hN : N = -25567 + n % 109573) (hK : K = q.tmod 1200) (hP : addM y m d K = P) (hend : ¬ (P = -25567 ∨ P = 84005))
    (ok2 : okB y' m' d' = true) (nu2 : num y' m' d' = P) (ok3 : okB y m D = true) (ea : addM y' m' d' (-K) = num y m D) (hD : D = d ∨ (28 < d ∧ D < d ∧ 28 ≤ D)) (w : World) (hL : Len w) :
    Calls Tryd.prog 9 #[.int .u32 n, .int .i16 q] w fun e w' => e = .returned (.bool true) ∧ Below w.heap.size w w' := by
  have k1 : -1200 < K := by rw [hK]; have := Int.tmod_lt_of_pos (-q) (show (0 : Int) < 1200 by decide); rw [Int.neg_tmod] at this; omega
  have k2 : K < 1200 := by rw [hK]; exact Int.tmod_lt_of_pos q (by decide)
  have e0 : -25567 + n % 109573 = N := hN.symm
  have e1 : q.tmod 1200 = K := hK.symm
  have HA := add_yes y m d N K hok hnum (by omega) (by omega)
  rw [hP] at HA
  have HA := Lib.hid HA
  have HA2 := add_yes y' m' d' P (-K) ok2 nu2 (by omega) (by omega)
  rw [ea] at HA2
  obtain ⟨R, hR⟩ : ∃ R, R = num y m D := ⟨_, rfl⟩
  rw [← hR] at HA2
  have HA2 := Lib.hid HA2
  have HT := Lib.hid (to_yes y m d N hok hnum)
  have HT2 := Lib.hid (to_yes y m D R ok3 hR.symm)
  have b1 : -25567 ≤ N := by omega
  have b2 : N ≤ 84005 := by omega
  have p1 : (P == -25567) = false := by simp; omega
  have p2 : (P == 84005) = false := by simp; omega
  clear hN hK hok hnum hP ok2 nu2 ok3 ea hR hend
  rcases hD with rfl | ⟨d1, d2, d3⟩
  · go_enter Tryd.func9, Tryd.ntmps9
    go_wp2_with fail
    refine (HA.out _ hL).mono ?_
    rintro e w1 ⟨rfl, hb1⟩
    have hL1 := hL.below hb1 (Nat.le_refl _)
    go_wp2_with fail
    refine (HT.out _ hL1).mono ?_
    rintro e w2 ⟨rfl, hb2⟩
    have hL2 := hL1.below hb2 (Nat.le_refl _)
    have hb12 := hb1.trans (hb2.mono hb1.size)
    clear hb1 hb2 hL1
    go_wp2_with fail
    refine (HA2.out _ hL2).mono ?_
    rintro e w3 ⟨rfl, hb3⟩
    have hL3 := hL2.below hb3 (Nat.le_refl _)
    have hb13 := hb12.trans (hb3.mono hb12.size)
    clear hb12 hb3 hL2
    go_wp2_with fail
    refine (HT2.out _ hL3).mono ?_
    rintro e w5 ⟨rfl, hb5⟩
    have hb15 := hb13.trans (hb5.mono hb13.size)
    have hz : w.heap.size ≤ w5.heap.size := hb15.size
    have hb16 := (hb15.alloc hb15.size (.cells #[.int .i64 y, .int .i64 m, .int .i64 D] 23)).alloc (by simp; omega) (.cells #[.int .i64 y, .int .i64 m, .int .i64 D] 23)
    clear hb13 hb5 hL3 hb15
    go_wp2_with fail
    refine (awake_on hL hb16 (Nat.le_refl _) (by simp; omega)).mono ?_
    rintro e w4 ⟨rfl, hb4⟩
    go_wp2
    go_ret
    exact ⟨rfl, hb4⟩
  · have p3 : (d == D) = false := by simp; omega
    go_enter Tryd.func9, Tryd.ntmps9
    go_wp2_with fail
    refine (HA.out _ hL).mono ?_
    rintro e w1 ⟨rfl, hb1⟩
    have hL1 := hL.below hb1 (Nat.le_refl _)
    go_wp2_with fail
    refine (HT.out _ hL1).mono ?_
    rintro e w2 ⟨rfl, hb2⟩
    have hL2 := hL1.below hb2 (Nat.le_refl _)
    have hb12 := hb1.trans (hb2.mono hb1.size)
    clear hb1 hb2 hL1
    go_wp2_with fail
    refine (HA2.out _ hL2).mono ?_
    rintro e w3 ⟨rfl, hb3⟩
    have hL3 := hL2.below hb3 (Nat.le_refl _)
    have hb13 := hb12.trans (hb3.mono hb12.size)
    clear hb12 hb3 hL2
    go_wp2_with fail
    refine (HT2.out _ hL3).mono ?_
    rintro e w5 ⟨rfl, hb5⟩
    have hb15 := hb13.trans (hb5.mono hb13.size)
    have hz : w.heap.size ≤ w5.heap.size := hb15.size
    have hb16 := (hb15.alloc hb15.size (.cells #[.int .i64 y, .int .i64 m, .int .i64 d] 23)).alloc (by simp; omega) (.cells #[.int .i64 y, .int .i64 m, .int .i64 D] 23)
    clear hb13 hb5 hL3 hb15
    go_wp2_with fail
    refine (awake_on hL hb16 (Nat.le_refl _) (by simp; omega)).mono ?_
    rintro e w4 ⟨rfl, hb4⟩
    go_wp2
    go_ret
    exact ⟨rfl, hb4⟩

theorem walkCivilForth (n q : Int) (w : World) (w0 : (Lit.int .u32 n).wf = true) (w1 : (Lit.int .i16 q).wf = true) (hL : Len w) :
    Calls Tryd.prog 9 #[.int .u32 n, .int .i16 q] w fun e w' => e = .returned (.bool true) ∧ Below w.heap.size w w' := by
  obtain ⟨n1, n2⟩ := bounds_u32 w0
  obtain ⟨q1, q2⟩ := bounds_i16 w1
  obtain ⟨y, m, d, hok, hnum⟩ := date_of (-25567 + n % 109573) (by omega) (by omega)
  by_cases c1 : q.tmod 1200 < -monN y m
  · exact forth_end n q _ n1 n2 q1 q2 y m d _ _ hok hnum rfl rfl (addM_first c1) (.inl rfl) w hL
  · by_cases c2 : 3600 - monN y m ≤ q.tmod 1200
    · exact forth_end n q _ n1 n2 q1 q2 y m d _ _ hok hnum rfl rfl (addM_last c1 c2) (.inr rfl) w hL
    · by_cases c3 : addM y m d (q.tmod 1200) = -25567 ∨ addM y m d (q.tmod 1200) = 84005
      · exact forth_end n q _ n1 n2 q1 q2 y m d _ _ hok hnum rfl rfl rfl c3 w hL
      · obtain ⟨y', m', d', D, ok2, ea, ok3, eb, hD⟩ := forth_back hok c1 c2
        exact forth_mid n q _ n1 n2 q1 q2 y m d _ _ y' m' d' D hok hnum rfl rfl rfl c3 ok2 ea.symm ok3 eb hD w hL

end Go.Proofs.YtajhabnepodpbaaDoor
