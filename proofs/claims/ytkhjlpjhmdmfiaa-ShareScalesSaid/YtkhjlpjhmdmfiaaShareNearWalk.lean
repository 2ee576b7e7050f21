/-
  What is proved: the walk of the statement ShareNear: the call returns true. Conditions: none.
-/
import Derived.Test.YtkhjlpjhmdmfiaaShareQ
namespace Go.Proofs.Ytkhjlpjhmdmfiaa
open Go Go.RowKit Go.Proofs

theorem allIn_of {x : Nat → Int} : ∀ n, (∀ j, j < n → 0 ≤ x j ∧ x j ≤ 1125899906842624) → allIn x n = true
  | 0, _ => rfl
  | n + 1, h => by
    have h1 := allIn_of n (fun j hj => h j (by omega))
    have h2 := h n (by omega)
    simp [allIn, h1, inB, h2]
theorem sumI_bound {x : Nat → Int} {b : Int} : ∀ n : Nat, (∀ j, j < n → 0 ≤ x j ∧ x j ≤ b) → 0 ≤ sumI x n ∧ sumI x n ≤ (n : Int) * b
  | 0, _ => by simp [sumI]
  | n + 1, h => by
    have h1 := sumI_bound n (fun j hj => h j (by omega))
    have h2 := h n (by omega)
    have h3 : ((n + 1 : Nat) : Int) * b = (n : Int) * b + b := by rw [Int.natCast_add, Int.add_mul]; omega
    rw [sumI, h3]; omega
/-- A row that was grown, as weights. -/
theorem wts_own {w : World} {base n : Nat} {E : TypeId} {v : Value} {x : Nat → Int} (h : w.ownsRow base E 1 v n (rowL x n)) : ∃ p cp, v = .slice p n cp ∧ Wts w p n x := by
  rcases h.2 with ⟨rfl, hz⟩ | ⟨g, c, cur, rfl, _, _, _⟩
  · obtain rfl : n = 0 := by simpa using hz
    exact ⟨none, 0, rfl, .inl rfl⟩
  · exact ⟨_, _, rfl, Wts.of_row (rowV_of_own h)⟩

set_option maxHeartbeats 2000000 in
set_option maxRecDepth 100000 in
theorem walkShareNear (t : Int) (p : Option Addr) (n cp : Nat) (zs : List Int) (w : World) (ht : (Lit.int .i32 t).wf = true) (hrow : IsRow .u16 w p n cp zs) : Calls Try.prog 3 #[.int .i32 t, .slice p n cp] w fun e w' => e = .returned (.bool true) ∧ Below w.heap.size w w' := by
  obtain ⟨x, hx, hm, hw⟩ := wtsK_of hrow
  unfold maxLen at hm
  have t1 : -2147483648 ≤ t ∧ t ≤ 2147483647 := Go.bounds_i32 ht
  have hx16 : ∀ j, j < n → 0 ≤ x j ∧ x j ≤ 65535 := fun j hj => Go.bounds_u16 (hw j hj)
  clear hrow hw
  have HX := Lib.hid hx
  have H16 := Lib.hid hx16
  clear hx hx16
  by_cases h64 : 64 < n
  · have d1 : (64 : Int) < (n : Int) := by omega
    go_enter Try.func3, Try.ntmps3
    go_wp2_with fail
    refine (awake_any _).mono ?_
    rintro e w1 ⟨rfl, hb⟩
    go_wp2
    go_ret
    exact ⟨rfl, hb⟩
  have d1 : ¬ (64 : Int) < (n : Int) := by omega
  have hO0 : w.ownsRow w.heap.size 2 1 (.slice none 0 0) 0 (rowL x 0) := World.ownsRow_nil _ _ _ _
  go_enter Try.func3, Try.ntmps3
  go_wp2
  go_loopw [5, 6, 8, 20] (fun lv sv _ kv wr => ∃ k : Nat, ∃ s : Int, k ≤ n ∧ kv = .int .i64 k ∧ sv = .int .i64 s ∧ Hid (s = sumI x k) ∧ Hid (wr.ownsRow w.heap.size 2 1 lv k (rowL x k)) ∧ Below w.heap.size w wr) (fun _ _ _ kv _ => n - (RowKit.intOf kv).toNat)
  case atStart => exact ⟨0, 0, by omega, rfl, rfl, Lib.hid rfl, Lib.hid hO0, Below.refl _ _⟩
  case round =>
    clear hO0
    obtain ⟨k, s, hk, rfl, rfl, HS, HO, hb⟩ := hrel
    by_cases hlt : k < n
    · rcases HX.out with h | ⟨b, o, rfl, hc⟩
      · omega
      have c0 := hc k hlt
      have hbl : b < w.heap.size := World.block_lt_of_cell? w _ c0
      have ck := (hb.cell (p := ⟨b, o + k, none⟩) hbl).trans c0
      have hv := H16.out k hlt
      have hs := sumI_bound k (fun j hj => H16.out j (by omega))
      rw [← HS.out] at hs
      have HS2 : Hid (s + x k = sumI x (k + 1)) := Lib.hid (by rw [sumI, HS.out])
      obtain ⟨v1, wA, hr1, ho1, hg1⟩ := app_own Try.underlying24 infoI64 w.heap.size 24 wr _ k _ HO.out (x k) (by omega) hb.size
      have hbA0 := hb.alloc hb.size (.cells #[.int .i64 (x k)] 2)
      have hbA : Below w.heap.size w wA := hbA0.grown hg1 hbA0.size (fun k hk => (HO.out.lt k hk).1)
      have H1 : Hid (wA.ownsRow w.heap.size 2 1 v1 (k + 1) (rowL x (k + 1))) := Lib.hid (by rw [rowL_succ]; exact ho1)
      have R1 := Lib.hid hr1
      clear c0 hc hr1 ho1 hg1 hbA0 hb HO HS HX
      generalize x k = v at ck hv HS2 R1
      have y0 : IntKind.i64.wrap v = v := wrap_i _ (by omega) (by omega)
      have y1 : IntKind.i64.wrap (s + v) = s + v := wrap_i _ (by omega) (by omega)
      have i1 : (k : Int) < (n : Int) := by omega
      go_wp2_with (at_builtin; refine Lib.wpList_append_run _ rfl _ _ 24 24 rfl _ _ rfl rfl v1 wA (R1.out) ?_)
      exact ⟨⟨k + 1, s + v, by omega, by go_num, rfl, HS2, H1, hbA⟩, by simp [RowKit.intOf]; omega⟩
    · obtain rfl : n = k := by omega
      obtain ⟨q, cq, rfl, hq⟩ := wts_own HO.out
      have hsb := sumI_bound n H16.out
      rw [← HS.out] at hsb
      have hall : allIn x n = true := allIn_of n (fun j hj => by have := H16.out j hj; omega)
      have hSN : (sumN (natW x) n : Int) = s := by rw [HS.out, ← sumI_cast]; exact (sumI_congr n (natW_cast hall)).symm
      have hfit : fitB t = true := by simp [fitB]; omega
      have hE : splitE t n x = if n = 0 then 10 else if sumN (natW x) n = 0 then 22 else 0 := by
        unfold splitE weighE
        rw [if_pos hfit, if_neg h64, if_pos hall]
      have z0 : IntKind.i64.wrap t = t := wrap_i _ (by omega) (by omega)
      have hbS : s ≤ 64 * 65535 := by
        have : (n : Int) * 65535 ≤ 64 * 65535 := Int.mul_le_mul_of_nonneg_right (by omega) (by omega)
        omega
      have HQ := Lib.hid hq
      clear hq
      by_cases hs0 : s = 0
      · have he : splitE t n x = 10 ∨ splitE t n x = 22 := by
          rw [hE]
          by_cases hn0 : n = 0
          · left; rw [if_pos hn0]
          · right; rw [if_neg hn0, if_pos (by omega)]
        have H1 := Lib.hid (Split_err t q n cq x wr (by omega) HQ.out (by omega))
        generalize splitE t n x = E at H1 he
        have HB := Lib.hid HO
        clear hE hSN HS HO HQ hsb
        subst hs0
        rcases he with rfl | rfl
        all_goals
          go_wp2_with fail
          refine (H1.out).mono ?_
          rintro e w1 ⟨rfl, hw⟩
          rw [hw]
          clear hw
          go_wp2_with fail
          refine (awake_any _).mono ?_
          rintro e w2 ⟨rfl, hb2⟩
          go_wp2
          go_ret
          exact ⟨rfl, hb.trans (hb2.mono hb.size)⟩
      · have he : splitE t n x = 0 := by
          rw [hE, if_neg (by rintro rfl; exact hs0 (by rw [HS.out]; rfl)), if_neg (by omega)]
        have H1 := Lib.hid (Split_is t q n cq x wr HQ.out he)
        have ds : (s == 0) = false := by simpa using hs0
        have dn : ((n : Int) != (n : Int)) = false := by simp
        clear hE he HO hSN
        go_wp2_with fail
        refine (H1.out).mono ?_
        rintro e w1 ⟨g, y, rfl, x1, x2, x3, x4, x5⟩
        have HP := Lib.hid x3
        have HY := Lib.hid x4
        have HQ1 := Lib.hid (HQ.out.below (Nat.le_refl _) x5)
        clear x3 x4 H1 HQ
        go_wp2
        go_loopw [11, 12, 13, 68] (fun _ _ _ kv wr => ∃ k m : Nat, k ≤ n ∧ kv = .int .i64 k ∧ wr = w1.drewN m) (fun _ _ _ kv _ => n - (RowKit.intOf kv).toNat)
        case atStart => exact ⟨0, 0, by omega, rfl, rfl⟩
        case round =>
          obtain ⟨k, m, hk, rfl, rfl⟩ := hrel
          by_cases hlt : k < n
          · rcases HQ1.out with h | ⟨b, o, rfl, hc⟩
            · omega
            rcases HY.out with h | ⟨b', o', hbb, hc'⟩
            · omega
            obtain ⟨rfl, rfl⟩ : b' = g ∧ o' = 0 := by simpa [eq_comm] using hbb
            have ck := hc k hlt
            have ck' := hc' k hlt
            rw [Nat.zero_add] at ck'
            obtain ⟨-, -, -, s4, s5⟩ := HP.out.sign k hlt
            have hn := HP.out.near k hlt
            rw [← HS.out] at hn
            have hv := H16.out k hlt
            clear hc hc' hbb HQ1 HY HP HS
            generalize x k = u at ck hn hv
            generalize y k = v at ck' hn s4 s5
            obtain ⟨A, hA⟩ : ∃ A, v * s = A := ⟨_, rfl⟩
            obtain ⟨B, hB⟩ : ∃ B, t * u = B := ⟨_, rfl⟩
            rw [hA, hB] at hn
            have hB1 : -(2147483648 * 65535) ≤ B ∧ B ≤ 2147483648 * 65535 := by
              rw [← hB]
              have h1 : t * u ≤ 2147483648 * u := Int.mul_le_mul_of_nonneg_right (by omega) hv.1
              have h2 : -2147483648 * u ≤ t * u := Int.mul_le_mul_of_nonneg_right (by omega) hv.1
              omega
            have y1 : IntKind.i64.wrap A = A := wrap_i _ (by omega) (by omega)
            have y2 : IntKind.i64.wrap B = B := wrap_i _ (by omega) (by omega)
            have y3 : IntKind.i64.wrap (A - B) = A - B := wrap_i _ (by omega) (by omega)
            have y4 : IntKind.i64.wrap (-s) = -s := wrap_i _ (by omega) (by omega)
            have g1 : decide (s ≤ A - B) = false := by simp; omega
            have g2 : decide (A - B ≤ -s) = false := by simp; omega
            have i1 : (k : Int) < (n : Int) := by omega
            go_wp2
            exact ⟨⟨k + 1, _, by omega, by go_num, rfl⟩, by simp [RowKit.intOf]; omega⟩
          · go_wp2_with fail
            refine (awake_any _).mono ?_
            rintro e w2 ⟨rfl, hb2⟩
            go_wp2
            go_ret
            have hbA := hb.trans (x5.mono hb.size)
            exact ⟨rfl, (below_drewN hbA m).trans (hb2.mono hbA.size)⟩

end Go.Proofs.Ytkhjlpjhmdmfiaa
