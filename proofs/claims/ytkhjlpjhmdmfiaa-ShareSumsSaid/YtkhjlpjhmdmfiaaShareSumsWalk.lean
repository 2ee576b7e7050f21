/-
  What is proved: the walk of the statement ShareSums: the call returns true. Conditions: none.
-/
import Derived.Test.YtkhjlpjhmdmfiaaShareQ
namespace Go.Proofs.Ytkhjlpjhmdmfiaa
open Go Go.RowKit Go.Proofs

set_option maxHeartbeats 2000000 in
set_option maxRecDepth 100000 in
theorem walkShareSums (t : Int) (p : Option Addr) (n cp : Nat) (zs : List Int) (w : World) (_ : (Lit.int .i64 t).wf = true) (hrow : IsRow .i64 w p n cp zs) : Calls Try.prog 5 #[.int .i64 t, .slice p n cp] w fun e w' => e = .returned (.bool true) ∧ Below w.heap.size w w' := by
  obtain ⟨x, hx, hm, -⟩ := wts_of hrow
  unfold maxLen at hm
  clear hrow
  have HX := Lib.hid hx
  clear hx
  by_cases h100 : 100 < n
  · have d1 : (100 : Int) < (n : Int) := by omega
    go_enter Try.func5, Try.ntmps5
    go_wp2_with fail
    refine (awake_any _).mono ?_
    rintro e w1 ⟨rfl, hb⟩
    go_wp2
    go_ret
    exact ⟨rfl, hb⟩
  have d1 : ¬ (100 : Int) < (n : Int) := by omega
  by_cases he : splitE t n x = 0
  · have H1 := Lib.hid (Split_is t p n cp x w HX.out he)
    have dn : ((n : Int) != (n : Int)) = false := by simp
    go_enter Try.func5, Try.ntmps5
    go_wp2_with fail
    refine (H1.out).mono ?_
    rintro e w1 ⟨g, y, rfl, x1, x2, x3, x4, x5⟩
    have HP := Lib.hid x3
    have HY := Lib.hid x4
    have HXw := Lib.hid (HX.out.below (Nat.le_refl _) x5)
    clear x3 x4 H1 he HX
    go_wp2
    go_loopw [7, 8, 9, 36] (fun sv _ _ kv wr => ∃ k m : Nat, ∃ s : Int, k ≤ n ∧ kv = .int .i64 k ∧ wr = w1.drewN m ∧ sv = .int .i64 s ∧ Hid (s = sumI y k)) (fun _ _ _ kv _ => n - (RowKit.intOf kv).toNat)
    case atStart => exact ⟨0, 0, 0, by omega, rfl, rfl, rfl, Lib.hid rfl⟩
    case round =>
      obtain ⟨k, m, s, hk, rfl, rfl, rfl, HS⟩ := hrel
      by_cases hlt : k < n
      · rcases HXw.out with h | ⟨b, o, rfl, hc⟩
        · omega
        rcases HY.out with h | ⟨b', o', hbb, hc'⟩
        · omega
        obtain ⟨rfl, rfl⟩ : b' = g ∧ o' = 0 := by simpa [eq_comm] using hbb
        have HC := Lib.hid hc
        have HC' := Lib.hid hc'
        have ck := hc k hlt
        have ck' := hc' k hlt
        obtain ⟨s1, s2, s3, s4, s5⟩ := HP.out.sign k hlt
        have hr1 := HP.out.runs k hk
        have hr2 := HP.out.runs (k + 1) hlt
        have HS2 : Hid (s + y k = sumI y (k + 1)) := Lib.hid (by rw [sumI, HS.out])
        rw [← HS.out] at hr1
        rw [← HS2.out] at hr2
        have HRise := Lib.hid (fun i hi h0 hik => HP.out.rise i k hi hlt h0 hik)
        have HRise' := Lib.hid (fun i hi h0 hik => HP.out.rise k i hlt hi h0 hik)
        clear hc hc' hbb HS
        rw [Nat.zero_add] at ck'
        obtain ⟨v, hv⟩ : ∃ v, v = y k := ⟨_, rfl⟩
        obtain ⟨u, hu⟩ : ∃ u, u = x k := ⟨_, rfl⟩
        rw [← hv] at ck' s1 s2 s3 s4 s5 hr2 HS2 HRise HRise'
        rw [← hu] at ck s3 HRise HRise'
        clear hv hu
        have y1 : IntKind.i64.wrap (s + v) = s + v := wrap_i _ (by omega) (by omega)
        have i1 : (k : Int) < (n : Int) := by omega
        have four : (v < 0 ∧ ¬ 0 ≤ t ∧ u ≠ 0) ∨ (0 < v ∧ ¬ t ≤ 0 ∧ u ≠ 0) ∨ (v = 0 ∧ u = 0) ∨ (v = 0 ∧ u ≠ 0) := by
          rcases Int.lt_trichotomy v 0 with h | h | h
          · exact .inl ⟨h, fun h2 => by have := s1 h2; omega, fun h2 => by have := s3 h2; omega⟩
          · by_cases hu : u = 0
            · exact .inr (.inr (.inl ⟨h, hu⟩))
            · exact .inr (.inr (.inr ⟨h, hu⟩))
          · exact .inr (.inl ⟨h, fun h2 => by have := s2 h2; omega, fun h2 => by have := s3 h2; omega⟩)
        clear s1 s2 s3
        have HF := Lib.hid four
        clear four
        have key : ∀ b1 b2 b3 b4 b5 b6 : Bool, decide (v < 0) = b1 → decide (0 ≤ t) = b2 → decide (0 < v) = b3 → decide (t ≤ 0) = b4 → (u == 0) = b5 → (v != 0) = b6 → ((b1 = true ∧ b2 = false ∧ b3 = false ∧ b5 = false) ∨ (b1 = false ∧ b3 = true ∧ b4 = false ∧ b5 = false) ∨ (b1 = false ∧ b3 = false ∧ b5 = true ∧ b6 = false) ∨ (b1 = false ∧ b3 = false ∧ b5 = false)) := by
          intro b1 b2 b3 b4 b5 b6 e1 e2 e3 e4 e5 e6
          subst e1 e2 e3 e4 e5 e6
          rcases HF.out with ⟨c1, c2, c3⟩ | ⟨c1, c2, c3⟩ | ⟨c1, c2⟩ | ⟨c1, c2⟩
          · exact .inl ⟨by simpa using c1, by simpa using c2, by simp; omega, by simpa using c3⟩
          · exact .inr (.inl ⟨by simp; omega, by simpa using c1, by simpa using c2, by simpa using c3⟩)
          · exact .inr (.inr (.inl ⟨by simp; omega, by simp; omega, by simpa using c2, by simp [c1]⟩))
          · exact .inr (.inr (.inr ⟨by simp; omega, by simp; omega, by simpa using c2⟩))
        have four := key _ _ _ _ _ _ rfl rfl rfl rfl rfl rfl
        clear key HF
        rcases four with ⟨c1, c2, c3, c4⟩ | ⟨c1, c2, c3, c4⟩ | ⟨c1, c2, c3, c4⟩ | ⟨c1, c2, c3⟩
        all_goals
          go_wp2
          go_loopw [10, 70] (fun _ jv wr => ∃ j m' : Nat, j ≤ k ∧ jv = .int .i64 j ∧ wr = w1.drewN m') (fun _ jv _ => k - (RowKit.intOf jv).toNat)
          case atStart => exact ⟨0, m, by omega, rfl, rfl⟩
          case round =>
            obtain ⟨j, m', hj, rfl, rfl⟩ := hrel
            by_cases hjl : j < k
            · have cj := HC.out j (by omega)
              have cj' := HC'.out j (by omega)
              have r1 := HRise.out j (by omega)
              have r2 := HRise'.out j (by omega)
              rw [Nat.zero_add] at cj'
              obtain ⟨v', hv⟩ : ∃ v, v = y j := ⟨_, rfl⟩
              obtain ⟨u', hu⟩ : ∃ u, u = x j := ⟨_, rfl⟩
              rw [← hv] at cj' r1 r2
              rw [← hu] at cj r1 r2
              have i2 : (j : Int) < (k : Int) := by omega
              have i3 : (j : Int) < (n : Int) := by omega
              have i4 : j < n := by omega
              have dec : (decide (0 ≤ t) = false) ∨ (decide (0 ≤ t) = true ∧ decide (u < u') = true ∧ decide (v' < v) = false ∧ decide (u' < u) = false) ∨ (decide (0 ≤ t) = true ∧ decide (u < u') = false ∧ decide (u' < u) = true ∧ decide (v < v') = false) ∨ (decide (0 ≤ t) = true ∧ decide (u < u') = false ∧ decide (u' < u) = false) := by
                by_cases ht : 0 ≤ t
                · rcases Int.lt_trichotomy u u' with h | h | h
                  · have := r2 ht h
                    exact .inr (.inl ⟨by simpa using ht, by simpa using h, by simp; omega, by simp; omega⟩)
                  · exact .inr (.inr (.inr ⟨by simpa using ht, by simp; omega, by simp; omega⟩))
                  · have := r1 ht h
                    exact .inr (.inr (.inl ⟨by simpa using ht, by simp; omega, by simpa using h, by simp; omega⟩))
                · exact .inl (by simpa using ht)
              clear r1 r2 hv hu HC HC' HRise HRise' HS2 HP HY HXw
              rcases dec with g1 | ⟨g1, g2, g3, g4⟩ | ⟨g1, g2, g3, g4⟩ | ⟨g1, g2, g3⟩
              all_goals
                go_wp2
                go_quiet (fail)
                go_wp2
                exact ⟨⟨j + 1, _, by omega, by go_num, rfl⟩, by simp [RowKit.intOf]; omega⟩
            · obtain rfl : k = j := by omega
              go_wp2
              go_round
              case rel => exact ⟨k + 1, m', s + v, by omega, by go_num, rfl, rfl, HS2⟩
              case measure => simp [RowKit.intOf]; omega
      · obtain rfl : n = k := by omega
        have hsum := HP.out.sum
        rw [← HS.out] at hsum
        have ds : (s == t) = true := by simp [hsum]
        clear hsum HS
        go_wp2_with fail
        refine (awake_any _).mono ?_
        rintro e w2 ⟨rfl, hb2⟩
        go_wp2
        go_ret
        exact ⟨rfl, (below_drewN x5 m).trans (hb2.mono x5.size)⟩
  · have H1 := Lib.hid (Split_err t p n cp x w (by omega) HX.out he)
    generalize splitE t n x = E at H1 he
    have dE : (E != 0) = true := by simp [he]
    go_enter Try.func5, Try.ntmps5
    go_wp2_with fail
    refine (H1.out).mono ?_
    rintro e w1 ⟨rfl, hw⟩
    rw [hw]
    clear hw
    go_wp2_with fail
    refine (awake_any _).mono ?_
    rintro e w2 ⟨rfl, hb⟩
    go_wp2
    go_ret
    exact ⟨rfl, hb⟩

end Go.Proofs.Ytkhjlpjhmdmfiaa
