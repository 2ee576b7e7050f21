/-
  What is proved: the walk of the statement ShareScales: the call returns true. Conditions: none.
-/
import Derived.Test.YtkhjlpjhmdmfiaaShareNearWalk
namespace Go.Proofs.Ytkhjlpjhmdmfiaa
open Go Go.RowKit Go.Proofs

theorem natW_times {n k : Nat} {x : Nat → Int} (hx : ∀ j, j < n → 0 ≤ x j ∧ x j ≤ 1099511627776) : ∀ j, j < n → natW (fun j => (k : Int) * x j) j = k * natW x j := fun j hj => by
  show ((k : Int) * x j).toNat = k * (x j).toNat
  have := (hx j hj).1
  obtain ⟨z, hz⟩ : ∃ z : Nat, x j = (z : Int) := ⟨(x j).toNat, by omega⟩
  rw [hz, ← Int.natCast_mul, Int.toNat_natCast, Int.toNat_natCast]
/-- The errors by weights made greater, and by the amount turned, are the same. -/
theorem weighE_times {n k : Nat} {x : Nat → Int} (hk : 0 < k) (hk2 : k ≤ 256) (hx : ∀ j, j < n → 0 ≤ x j ∧ x j ≤ 1099511627776) : weighE n (fun j => (k : Int) * x j) = weighE n x := by
  have h1 : allIn x n = true := allIn_of n (fun j hj => by have := hx j hj; omega)
  have hx2 : ∀ j, j < n → 0 ≤ (k : Int) * x j ∧ (k : Int) * x j ≤ 256 * 1099511627776 := fun j hj => by
    have h := hx j hj
    refine ⟨Int.mul_nonneg (by omega) h.1, ?_⟩
    have a1 : (k : Int) * x j ≤ 256 * x j := Int.mul_le_mul_of_nonneg_right (by omega) h.1
    omega
  have h2 : allIn (fun j => (k : Int) * x j) n = true := allIn_of n (fun j hj => by have := hx2 j hj; show 0 ≤ (k : Int) * x j ∧ (k : Int) * x j ≤ 1125899906842624; omega)
  have h3 : sumN (natW fun j => (k : Int) * x j) n = k * sumN (natW x) n := sum_scale n (natW_times hx)
  unfold weighE
  rw [h1, h2, h3]
  by_cases h0 : sumN (natW x) n = 0
  · rw [h0]; simp
  · have : ¬ k * sumN (natW x) n = 0 := by
      intro e
      rcases Nat.mul_eq_zero.1 e with e | e <;> omega
    rw [if_neg h0, if_neg this]
theorem fitB_neg (t : Int) : fitB (-t) = fitB t := by
  unfold fitB
  rw [Bool.eq_iff_iff]
  simp
  omega
theorem splitE_neg (t : Int) (n : Nat) (x : Nat → Int) : splitE (-t) n x = splitE t n x := by unfold splitE; rw [fitB_neg]
theorem sg_neg (t : Int) (P : Nat) (h : t = 0 → P = 0) : sg (-t) * (P : Int) = -(sg t * (P : Int)) := by
  unfold sg
  by_cases h0 : t = 0
  · rw [h h0]; simp
  · by_cases h1 : t < 0
    · rw [if_pos h1, if_neg (by omega)]; omega
    · rw [if_neg h1, if_pos (by omega)]; omega
theorem parts_times {t : Int} {n k : Nat} {x : Nat → Int} {f g : Nat → Nat} (hk : 0 < k) (hx : ∀ j, j < n → 0 ≤ x j ∧ x j ≤ 1099511627776) (h0 : 0 < sumN (natW x) n) (hf : Good (rsN t.natAbs (sumN (natW x) n) (natW x)) f 0 n) (hg : Good (rsN t.natAbs (sumN (natW fun j => (k : Int) * x j) n) (natW fun j => (k : Int) * x j)) g 0 n) :
    ∀ j, j < n → sg t * (bump g (whN t.natAbs (sumN (natW fun j => (k : Int) * x j) n) (natW fun j => (k : Int) * x j)) (leftN t.natAbs (sumN (natW fun j => (k : Int) * x j) n) (natW fun j => (k : Int) * x j) n) j : Int) = sg t * (bump f (whN t.natAbs (sumN (natW x) n) (natW x)) (leftN t.natAbs (sumN (natW x) n) (natW x) n) j : Int) := fun j hj => by
  rw [parts_scale hk (natW_times hx) h0 hf hg hj]
theorem parts_neg {t : Int} {n : Nat} {x : Nat → Int} {f g : Nat → Nat} (h0 : 0 < sumN (natW x) n) (hf : Good (rsN t.natAbs (sumN (natW x) n) (natW x)) f 0 n) (hg : Good (rsN (-t).natAbs (sumN (natW x) n) (natW x)) g 0 n) :
    ∀ j, j < n → sg (-t) * (bump g (whN (-t).natAbs (sumN (natW x) n) (natW x)) (leftN (-t).natAbs (sumN (natW x) n) (natW x) n) j : Int) = -(sg t * (bump f (whN t.natAbs (sumN (natW x) n) (natW x)) (leftN t.natAbs (sumN (natW x) n) (natW x) n) j : Int)) := fun j hj => by
  rw [Int.natAbs_neg] at hg ⊢
  have h1 := good_uni hf hg n (Nat.le_refl _)
  have h2 : bump f (whN t.natAbs (sumN (natW x) n) (natW x)) (leftN t.natAbs (sumN (natW x) n) (natW x) n) j = bump g (whN t.natAbs (sumN (natW x) n) (natW x)) (leftN t.natAbs (sumN (natW x) n) (natW x) n) j :=
    bump_same (fun i hi => h1 i (by have := left_le (a := t.natAbs) (wt := natW x) (n := n) rfl h0; omega)) j rfl
  rw [h2]
  refine sg_neg t _ (fun ht => ?_)
  have h3 := parts_sum rfl h0 hg
  have h4 := sumN_le (r := bump g (whN t.natAbs (sumN (natW x) n) (natW x)) (leftN t.natAbs (sumN (natW x) n) (natW x) n)) hj
  rw [h3, ht] at h4
  simp at h4
  rw [ht]
  exact h4

set_option maxHeartbeats 2000000 in
set_option maxRecDepth 100000 in
theorem walkShareScales (t : Int) (p : Option Addr) (n cp : Nat) (zs : List Int) (u : Int) (w : World) (_ : (Lit.int .i64 t).wf = true) (hrow : IsRow .i64 w p n cp zs) (hu : (Lit.int .u8 u).wf = true) : Calls Try.prog 6 #[.int .i64 t, .slice p n cp, .int .u8 u] w fun e w' => e = .returned (.bool true) ∧ Below w.heap.size w w' := by
  obtain ⟨x, hx, hm, -⟩ := wts_of hrow
  unfold maxLen at hm
  have u1 := Go.bounds_u8 hu
  clear hrow hu
  have HX := Lib.hid hx
  clear hx
  by_cases h64 : 64 < n
  · have d1 : (64 : Int) < (n : Int) := by omega
    go_enter Try.func6, Try.ntmps6
    go_wp2_with fail
    refine (awake_any _).mono ?_
    rintro e w1 ⟨rfl, hb⟩
    go_wp2
    go_ret
    exact ⟨rfl, hb⟩
  have d1 : ¬ (64 : Int) < (n : Int) := by omega
  obtain ⟨K, hK⟩ : ∃ K : Nat, (K : Int) = u + 1 := ⟨(u + 1).toNat, by omega⟩
  have hK1 : 0 < K := by omega
  have hK2 : K ≤ 256 := by omega
  have yu : IntKind.i64.wrap u = u := wrap_i _ (by omega) (by omega)
  have yk : u + 1 = (K : Int) := hK.symm
  have yk2 : IntKind.i64.wrap (K : Int) = (K : Int) := wrap_i _ (by omega) (by omega)
  clear hK
  have hO0 : w.ownsRow w.heap.size 2 1 (.slice none 0 0) 0 (rowL (fun j => (K : Int) * x j) 0) := World.ownsRow_nil _ _ _ _
  go_enter Try.func6, Try.ntmps6
  go_wp2
  go_loopw [8, 10, 27] (fun lv _ kv wr => ∃ k : Nat, k ≤ n ∧ kv = .int .i64 k ∧ Hid (∀ j, j < k → 0 ≤ x j ∧ x j ≤ 1099511627776) ∧ Hid (wr.ownsRow w.heap.size 2 1 lv k (rowL (fun j => (K : Int) * x j) k)) ∧ Below w.heap.size w wr) (fun _ _ kv _ => n - (RowKit.intOf kv).toNat)
  case atStart => exact ⟨0, by omega, rfl, Lib.hid (fun j hj => by omega), Lib.hid hO0, Below.refl _ _⟩
  case round =>
    clear hO0 yk yk2 yu
    obtain ⟨k, hk, rfl, HA, HO, hb⟩ := hrel
    by_cases hlt : k < n
    · rcases HX.out with h | ⟨b, o, rfl, hc⟩
      · omega
      have c0 := hc k hlt
      have hbl : b < w.heap.size := World.block_lt_of_cell? w _ c0
      have ck := (hb.cell (p := ⟨b, o + k, none⟩) hbl).trans c0
      have i1 : (k : Int) < (n : Int) := by omega
      by_cases hbad : x k < 0 ∨ 1099511627776 < x k
      · clear HX HO HA c0 hc
        generalize x k = v at ck hbad
        have hb2 : decide (v < 0) = true ∨ (decide (v < 0) = false ∧ decide (1099511627776 < v) = true) := by
          by_cases h : v < 0
          · exact .inl (by simpa using h)
          · exact .inr ⟨by simpa using h, by simp; omega⟩
        clear hbad
        rcases hb2 with g1 | ⟨g1, g2⟩
        all_goals
          go_wp2_with fail
          refine (awake_any _).mono ?_
          rintro e w1 ⟨rfl, hb1⟩
          go_wp2
          go_ret
          exact ⟨rfl, hb.trans (hb1.mono hb.size)⟩
      · have HA2 : Hid (∀ j, j < k + 1 → 0 ≤ x j ∧ x j ≤ 1099511627776) := Lib.hid (fun j hj => by
          by_cases e : j = k
          · rw [e]; omega
          · exact HA.out j (by omega))
        obtain ⟨v1, wA, hr1, ho1, hg1⟩ := app_own Try.underlying24 infoI64 w.heap.size 24 wr _ k _ HO.out ((K : Int) * x k) (by omega) hb.size
        have hbA0 := hb.alloc hb.size (.cells #[.int .i64 ((K : Int) * x k)] 2)
        have hbA : Below w.heap.size w wA := hbA0.grown hg1 hbA0.size (fun k hk => (HO.out.lt k hk).1)
        have H1 : Hid (wA.ownsRow w.heap.size 2 1 v1 (k + 1) (rowL (fun j => (K : Int) * x j) (k + 1))) := Lib.hid (by rw [rowL_succ]; exact ho1)
        have R1 := Lib.hid hr1
        clear c0 hc hr1 ho1 hg1 hbA0 hb HO HX HA
        generalize x k = v at ck hbad R1
        have g1 : decide (v < 0) = false := by simp; omega
        have g2 : decide (1099511627776 < v) = false := by simp; omega
        have hv : 0 ≤ v ∧ v ≤ 1099511627776 := by omega
        have hKv : 0 ≤ (K : Int) * v ∧ (K : Int) * v ≤ 256 * 1099511627776 := by
          refine ⟨Int.mul_nonneg (by omega) hv.1, ?_⟩
          have a1 : (K : Int) * v ≤ 256 * v := Int.mul_le_mul_of_nonneg_right (by omega) hv.1
          omega
        obtain ⟨V, hV⟩ : ∃ V, (K : Int) * v = V := ⟨_, rfl⟩
        rw [hV] at R1 hKv
        have y0 : IntKind.i64.wrap V = V := wrap_i _ (by omega) (by omega)
        clear hbad
        go_wp2_with (at_builtin; refine Lib.wpList_append_run _ rfl _ _ 24 24 rfl _ _ rfl rfl v1 wA (R1.out) ?_)
        exact ⟨⟨k + 1, by omega, by go_num, HA2, H1, hbA⟩, by simp [RowKit.intOf]; omega⟩
    · obtain rfl : n = k := by omega
      obtain ⟨q, cq, rfl, hq⟩ := wts_own HO.out
      have HQ := Lib.hid hq
      clear hq HO hlt hk
      by_cases hfit : fitB t = true
      · have ht : -1125899906842624 ≤ t ∧ t ≤ 1125899906842624 := by simpa [fitB] using hfit
        have g1 : decide (1125899906842624 < t) = false := by simp; omega
        have g2 : decide (t < -1125899906842624) = false := by simp; omega
        have g3 : IntKind.i64.wrap (-t) = -t := wrap_i _ (by omega) (by omega)
        have e1 : weighE n (fun j => (K : Int) * x j) = weighE n x := weighE_times hK1 hK2 HA.out
        have HX1 := Lib.hid (HX.out.below (Nat.le_refl _) hb)
        clear HX
        by_cases he : splitE t n x = 0
        · have he2 : splitE t n (fun j => (K : Int) * x j) = 0 := by unfold splitE at he ⊢; rw [e1]; exact he
          have he3 : splitE (-t) n x = 0 := by rw [splitE_neg]; exact he
          have hpos : 0 < sumN (natW x) n := (weigh_zero (by simpa [splitE, hfit] using he)).2.2.2.1
          have H1 := Lib.hid (Split_ok t p n cp x wr HX1.out he)
          have dn : ((n : Int) != (n : Int)) = false := by simp
          go_wp2_with fail
          refine (H1.out).mono ?_
          rintro e w1 ⟨g, f, rfl, a1, a2, a3, a4, a5⟩
          have A3 := Lib.hid a3
          have A4 := Lib.hid a4
          have H2 := Lib.hid (Split_ok t q n cq _ w1 (HQ.out.below (Nat.le_refl _) a5) he2)
          clear a3 a4 H1 HQ
          go_wp2_with fail
          refine (H2.out).mono ?_
          rintro e w2 ⟨g', f', rfl, b1, b2, b3, b4, b5⟩
          have B4 := Lib.hid ((Wts.of_row b4).congr (parts_times hK1 HA.out hpos A3.out b3))
          have H3 := Lib.hid (Split_ok (-t) p n cp x w2 ((HX1.out.below (Nat.le_refl _) a5).below (Nat.le_refl _) b5) he3)
          clear b3 b4 H2 HX1
          go_wp2_with fail
          refine (H3.out).mono ?_
          rintro e w3 ⟨g'', f'', rfl, c1, c2, c3, c4, c5⟩
          obtain ⟨y, hyd⟩ : ∃ y : Nat → Int, ∀ j, y j = sg t * (bump f (whN t.natAbs (sumN (natW x) n) (natW x)) (leftN t.natAbs (sumN (natW x) n) (natW x) n) j : Int) := ⟨_, fun _ => rfl⟩
          have C4 : Hid (Wts w3 (some ⟨g'', 0, none⟩) n (fun j => -(y j))) := Lib.hid ((Wts.of_row c4).congr (fun j hj => (parts_neg hpos A3.out c3 j hj).trans (by rw [hyd])))
          have HY : Hid (∀ j, j < n → -1125899906842624 ≤ y j ∧ y j ≤ 1125899906842624) := Lib.hid (fun j hj => by
            obtain ⟨-, -, -, h4, h5⟩ := (partsOk he A3.out).sign j hj
            rw [hyd]
            exact ⟨h4, h5⟩)
          have A5 : Hid (Wts w3 (some ⟨g, 0, none⟩) n y) := Lib.hid ((((Wts.of_row A4.out).below (Nat.le_refl _) b5).below (Nat.le_refl _) c5).congr (fun j _ => (hyd j).symm))
          have B5 : Hid (Wts w3 (some ⟨g', 0, none⟩) n y) := Lib.hid ((B4.out.below (Nat.le_refl _) c5).congr (fun j _ => (hyd j).symm))
          have hbA : Below w.heap.size w w3 := ((hb.trans (a5.mono hb.size)).trans (b5.mono (Nat.le_trans hb.size a5.size))).trans (c5.mono (Nat.le_trans hb.size (Nat.le_trans a5.size b5.size)))
          clear c3 c4 H3 A3 A4 B4 hyd a5 b5 c5 HA he he2 he3 hpos e1 a1 a2 b1 b2 c1 c2 hb
          go_wp2_with fail
          refine (same_yes _ _ n n n y w3 (by omega) A5.out B5.out).mono ?_
          rintro e w4 ⟨rfl, m4, rfl⟩
          go_wp2
          go_loopw [17, 94] (fun _ kv wr => ∃ k m : Nat, k ≤ n ∧ kv = .int .i64 k ∧ wr = w3.drewN m) (fun _ kv _ => n - (RowKit.intOf kv).toNat)
          case atStart => exact ⟨0, m4, by omega, rfl, rfl⟩
          case round =>
            obtain ⟨k, m, hk, rfl, rfl⟩ := hrel
            by_cases hlt : k < n
            · rcases A5.out with h | ⟨b, o, hbb, hc⟩
              · omega
              rcases C4.out with h | ⟨b', o', hbb', hc'⟩
              · omega
              obtain ⟨rfl, rfl⟩ : b = g ∧ o = 0 := by simpa [eq_comm] using hbb
              obtain ⟨rfl, rfl⟩ : b' = g'' ∧ o' = 0 := by simpa [eq_comm] using hbb'
              have ck := hc k hlt
              have ck' : w3.cell? ⟨b', 0 + k, none⟩ = some (.int .i64 (-(y k))) := hc' k hlt
              rw [Nat.zero_add] at ck ck'
              have hv := HY.out k hlt
              clear hc hc' hbb hbb' A5 B5 C4 HY
              generalize y k = v at ck ck' hv
              have y0 : IntKind.i64.wrap (-v) = -v := wrap_i _ (by omega) (by omega)
              have dv : (-v != -v) = false := by simp
              have i1 : (k : Int) < (n : Int) := by omega
              go_wp2
              go_quiet (fail)
              go_wp2
              exact ⟨⟨k + 1, _, by omega, by go_num, rfl⟩, by simp [RowKit.intOf]; omega⟩
            · go_wp2_with fail
              refine (awake_any _).mono ?_
              rintro e w5 ⟨rfl, hb5⟩
              go_wp2
              go_ret
              exact ⟨rfl, (below_drewN hbA m).trans (hb5.mono hbA.size)⟩
        · have he2 : splitE t n (fun j => (K : Int) * x j) = splitE t n x := by unfold splitE; rw [e1]
          have he3 : splitE (-t) n x = splitE t n x := splitE_neg t n x
          have H1 := Lib.hid (Split_err t p n cp x wr (by omega) HX1.out he)
          have H2 := Lib.hid (Split_err t q n cq _ wr (by omega) HQ.out (by rw [he2]; exact he))
          have H3 := Lib.hid (Split_err (-t) p n cp x wr (by omega) HX1.out (by rw [he3]; exact he))
          rw [he2] at H2
          rw [he3] at H3
          clear he2 he3 e1
          generalize splitE t n x = E at H1 H2 H3 he
          have dE : (E != E) = false := by simp
          go_wp2_with fail
          refine (H1.out).mono ?_
          rintro e w1 ⟨rfl, hw⟩
          rw [hw]
          clear hw
          go_wp2_with fail
          refine (H2.out).mono ?_
          rintro e w1 ⟨rfl, hw⟩
          rw [hw]
          clear hw
          go_wp2_with fail
          refine (H3.out).mono ?_
          rintro e w1 ⟨rfl, hw⟩
          rw [hw]
          clear hw
          go_wp2_with fail
          refine (same_yes none none 0 0 0 (fun _ => 0) wr (by omega) (.inl rfl) (.inl rfl)).mono ?_
          rintro e w4 ⟨rfl, m, rfl⟩
          go_wp2
          go_loopw [17, 94] (fun _ kv wr' => kv = .int .i64 0 ∧ wr' = wr.drewN m) (fun _ kv _ => 0)
          case atStart => exact ⟨rfl, rfl⟩
          case round =>
            obtain ⟨rfl, rfl⟩ := hrel
            go_wp2_with fail
            refine (awake_any _).mono ?_
            rintro e w5 ⟨rfl, hb5⟩
            go_wp2
            go_ret
            exact ⟨rfl, (below_drewN hb m).trans (hb5.mono hb.size)⟩
      · have hf2 : decide (1125899906842624 < t) = true ∨ (decide (1125899906842624 < t) = false ∧ decide (t < -1125899906842624) = true) := by
          have : ¬ (-1125899906842624 ≤ t ∧ t ≤ 1125899906842624) := by simpa [fitB] using hfit
          by_cases h : 1125899906842624 < t
          · exact .inl (by simpa using h)
          · exact .inr ⟨by simpa using h, by simp; omega⟩
        clear hfit
        rcases hf2 with g1 | ⟨g1, g2⟩
        all_goals
          go_wp2_with fail
          refine (awake_any _).mono ?_
          rintro e w1 ⟨rfl, hb1⟩
          go_wp2
          go_ret
          exact ⟨rfl, hb.trans (hb1.mono hb.size)⟩

end Go.Proofs.Ytkhjlpjhmdmfiaa
