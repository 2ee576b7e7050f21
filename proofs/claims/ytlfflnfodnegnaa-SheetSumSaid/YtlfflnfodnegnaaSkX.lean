/-
  What is proved: the contract of the document's own Weeks. Conditions: right entries, right limits; the entries lie in memory as the contract says.
-/
import Derived.Test.YtlfflnfodnegnaaSkV
import Derived.Test.YtlfflnfodnegnaaSkI
namespace Go.Proofs.Ytlfflnfodnegnaa
open Go Go.RowKit Go.Proofs
set_option linter.unusedVariables false

theorem monsP_len (f : Nat → En) : ∀ k, (monsP f k).length ≤ k
  | 0 => Nat.le_refl _
  | k + 1 => by
    have := monsP_len f k
    unfold monsP
    by_cases h : newW f k = true
    · rw [if_pos h, List.length_append]; simp; exact this
    · rw [if_neg h]; omega
theorem mon_mon {d : Int} (h : inB d = true) : mon d = mon (mon d) := by
  have e := mon_at h
  obtain ⟨m, hm⟩ : ∃ m, m = mon d := ⟨_, rfl⟩
  rw [← hm] at e ⊢
  cases hi : inB m with
  | true => rw [mon_at hi]; omega
  | false => have h' := inB_iff.1 h; have h2 : inB m = true := inB_iff.2 ⟨by omega, by omega⟩; rw [hi] at h2; cases h2
theorem week_is {f : Nat → En} {n : Nat} {D W : Int} (hr : Rt f n) {m : Int} (hm : ∃ i, i < n ∧ mon (f i).1 = m) : sumP D W m (m + 7) f n = (stt D W f n m).2 := by
  obtain ⟨j, hj, rfl⟩ := hm
  exact week_sum hr (mon_mon (hr.1 j hj).1) (fun i hi => week_in hr hi hj) n (Nat.le_refl _)

set_option maxHeartbeats 4000000 in
set_option maxRecDepth 100000 in
theorem rWeeks_any (f : Nat → En) (p : Option Addr) (n c : Nat) (D W : Int) (w : World) (h : EntsIn w p n f) (hn : n ≤ 4096) (hr : Rt f n) (hL : Lim D W) :
    Calls Try.prog 14 #[.slice p n c, .int .i64 D, .int .i64 W] w fun e w' => ∃ (p' : Option Addr) (c' : Nat), e = .returned (.slice p' (monsP f n).length c') ∧ HrsIn w' p' (monsP f n).length (fun j => (stt D W f n ((monsP f n).getD j 0)).2) ∧ Below w.heap.size w w' := by
  obtain ⟨gE, hgE⟩ : ∃ gE : Int → Hr, gE = fun m => sumP D W m (m + 7) f n := ⟨_, rfl⟩
  have HFIN : Hid (∀ p' w', HrsIn w' p' (monsP f n).length (fun j => gE ((monsP f n).getD j 0)) → HrsIn w' p' (monsP f n).length (fun j => (stt D W f n ((monsP f n).getD j 0)).2)) := Lib.hid (fun p' w' h => h.congr (fun j hj => by
    rw [hgE]
    refine week_is hr (((monsP_mem hr n (Nat.le_refl _)).1 _).1 ?_)
    rw [getD_at _ 0 hj]
    exact List.getElem_mem _))
  have HSM : Hid (∀ V M, EntsIn V p n f → Calls Try.prog 16 #[.slice p n c, .int .i64 D, .int .i64 W, .agg #[.int .i64 M, .int .i64 (M + 7)]] V fun e w' => e = .returned (.agg #[.int .i64 (gE M).1, .int .i64 (gE M).2.1, .int .i64 (gE M).2.2]) ∧ Below V.heap.size V w') := Lib.hid (fun V M hV => by rw [hgE]; exact rSum_any f p n c D W M (M + 7) V hV hn hr hL)
  have HE := Lib.hid h
  have HRT := Lib.hid hr
  have HML : Hid (∀ k, k ≤ n → (monsP f k).length ≤ k) := Lib.hid (fun k hk => monsP_len f k)
  clear h hr hL hgE
  go_enter Try.func14, Try.ntmps14
  go_wp2
  go_loopw [8, 7] (fun iv hv wr => ∃ k : Nat, k ≤ n ∧ iv = .int .i64 k ∧ Hid (wr.ownsRow w.heap.size 41 3 hv (monsP f k).length (hrC ((monsP f k).map gE))) ∧ Hid (Below w.heap.size w wr)) (fun iv _ _ => n - (RowKit.intOf iv).toNat)
  case atStart => exact ⟨0, by omega, rfl, Lib.hid ⟨rfl, .inl ⟨rfl, rfl⟩⟩, Lib.hid (Below.refl _ _)⟩
  case round =>
    obtain ⟨k, hk, rfl, HO, HB⟩ := hrel
    have hzr := HB.out.size
    by_cases hlt : k < n
    · have hlI : (k : Int) < (n : Int) := by omega
      have hk4 : (k : Int) < 4096 := by omega
      rcases HE.out with h | ⟨b, o, rfl, hc⟩
      · omega
      have HEr : Hid (EntsIn wr (some ⟨b, o, none⟩) n f) := Lib.hid (HE.out.below HB.out)
      have hin := (HRT.out.1 k hlt).1
      have HMK := Lib.hid (rMon_any (f k).1 hin)
      have hmb := mon_bd hin
      obtain ⟨hb1, hb2⟩ := hmb
      have hml := HML.out k (by omega)
      obtain ⟨i0, hi, q0, q1, q2⟩ := info_parts (P := Try.prog) (e := 41) (z := .agg #[.int .i64 0, .int .i64 0, .int .i64 0]) (size := 3) (bytes := 24) (by kernel_rfl)
      cases k with
      | zero =>
        obtain ⟨xa, -, -⟩ := hc 0 hlt
        replace xa := stay HB.out xa
        have hnw : newW f 0 = true := rfl
        obtain ⟨M, hM⟩ : ∃ M, M = mon (f (0)).1 := ⟨_, rfl⟩
        have HNX : Hid ((monsP f (0 + 1)) = (monsP f (0)) ++ [M]) := Lib.hid (by rw [hM]; show (if newW f (0) = true then _ else _) = _; rw [if_pos hnw])
        rw [← hM] at HMK hb1 hb2
        obtain ⟨d, hd⟩ : ∃ d, d = (f (0)).1 := ⟨_, rfl⟩
        rw [← hd] at HMK xa
        have hkz : (((0 : Nat) : Int) == 0) = true := rfl
        simp only [Nat.zero_mul, Nat.add_zero] at xa
        clear hd hM hc hin HE HRT HML HFIN hnw
        go_wp2_with fail
        refine (HMK.out _).mono ?_
        rintro e w' ⟨rfl, rfl⟩
        go_wp2_with fail
        refine (HSM.out _ _ HEr.out).mono ?_
        rintro e V ⟨rfl, hbV⟩
        have HOV : Hid (V.ownsRow w.heap.size 41 3 _ _ _) := Lib.hid (own_below HO.out hbV)
        have HBV : Hid (Below w.heap.size w V) := Lib.hid (HB.out.trans (hbV.mono hzr))
        have hzV := HBV.out.size
        have HK : Hid (hrC ((monsP f (0 + 1)).map gE) = hrC ((monsP f (0)).map gE) ++ [.int .i64 (gE M).1, .int .i64 (gE M).2.1, .int .i64 (gE M).2.2]) := Lib.hid (by rw [HNX.out, List.map_append, hrC_app]; simp [hrC])
        have HKL : Hid ((monsP f (0 + 1)).length = (monsP f (0)).length + 1) := Lib.hid (by rw [HNX.out]; simp)
        have HO' := HOV.out
        generalize gE M = G at *
        obtain ⟨G1, G2, G3⟩ := G
        simp only at *
        have hnw := news_at V [.int .i64 G1, .int .i64 G2, .int .i64 G3] 41
        replace hnw := Lib.hid hnw
        clear HO HB HEr hbV HNX HMK
        go_wp2_with (first | (at_builtin; refine wpList_append_own _ rfl _ _ 39 rfl w.heap.size 41 i0 (.agg #[.int .i64 0, .int .i64 0, .int .i64 0]) 3 24 Try.underlying39 hi q0 q1 q2 rfl (by decide) _ _ _ rfl (HO'.alloc _) ⟨V.heap.size, 0, none⟩ 1 1 [.int .i64 G1, .int .i64 G2, .int .i64 G3] rfl rfl hnw.out (fun u hu => by simp at hu; rcases hu with rfl | rfl | rfl <;> rfl) (by unfold maxLen; omega) (by omega) (by simp; omega) ?_; intro v' w3 hown3 hg3 _) | go_in)
        have HBW3 : Below w.heap.size w w3 := (HBV.out.alloc hzV _).grown hg3 (by simp; omega) (fun k e => (HO'.lt k e).1)
        exact ⟨⟨0 + 1, by omega, by go_num, Lib.hid (by rw [HK.out, HKL.out]; exact hown3), Lib.hid HBW3⟩, by simp [RowKit.intOf]; omega⟩
      | succ k =>
        obtain ⟨xa, -, -⟩ := hc (k + 1) hlt
        replace xa := stay HB.out xa
        obtain ⟨xj, -, -⟩ := hc k (by omega)
        replace xj := stay HB.out xj
        have e1 : (((k + 1 : Nat) : Int) == 0) = false := by simp; omega
        have i2 : ((k + 1 : Nat) : Int) - 1 = (k : Int) := by omega
        have i4 : (k : Int) < (n : Int) := by omega
        have HMJ := Lib.hid (rMon_any (f k).1 (HRT.out.1 k (by omega)).1)
        by_cases hnw : newW f (k + 1) = true
        · obtain ⟨M, hM⟩ : ∃ M, M = mon (f (k + 1)).1 := ⟨_, rfl⟩
          have HNX : Hid ((monsP f (k + 1 + 1)) = (monsP f (k + 1)) ++ [M]) := Lib.hid (by rw [hM]; show (if newW f (k + 1) = true then _ else _) = _; rw [if_pos hnw])
          rw [← hM] at HMK hb1 hb2
          obtain ⟨d, hd⟩ : ∃ d, d = (f (k + 1)).1 := ⟨_, rfl⟩
          have hne : (mon (f k).1 != M) = true := by
            have := hnw
            unfold newW at this
            rw [Bool.or_eq_true] at this
            rcases this with h | h
            · simp at h
            · rw [hM]; exact h
          rw [← hd] at HMK xa
          generalize mon (f k).1 = A at *
          generalize (f k).1 = dj at *
          clear hd hM hc hin HE HRT HML HFIN hnw
          go_wp2_with fail
          refine (HMK.out _).mono ?_
          rintro e w' ⟨rfl, rfl⟩
          go_wp2_with fail
          refine (HMJ.out _).mono ?_
          rintro e w' ⟨rfl, rfl⟩
          go_wp2_with fail
          refine (HSM.out _ _ HEr.out).mono ?_
          rintro e V ⟨rfl, hbV⟩
          have HOV : Hid (V.ownsRow w.heap.size 41 3 _ _ _) := Lib.hid (own_below HO.out hbV)
          have HBV : Hid (Below w.heap.size w V) := Lib.hid (HB.out.trans (hbV.mono hzr))
          have hzV := HBV.out.size
          have HK : Hid (hrC ((monsP f (k + 1 + 1)).map gE) = hrC ((monsP f (k + 1)).map gE) ++ [.int .i64 (gE M).1, .int .i64 (gE M).2.1, .int .i64 (gE M).2.2]) := Lib.hid (by rw [HNX.out, List.map_append, hrC_app]; simp [hrC])
          have HKL : Hid ((monsP f (k + 1 + 1)).length = (monsP f (k + 1)).length + 1) := Lib.hid (by rw [HNX.out]; simp)
          have HO' := HOV.out
          generalize gE M = G at *
          obtain ⟨G1, G2, G3⟩ := G
          simp only at *
          have hnw := news_at V [.int .i64 G1, .int .i64 G2, .int .i64 G3] 41
          replace hnw := Lib.hid hnw
          clear HO HB HEr hbV HNX HMK
          go_wp2_with (first | (at_builtin; refine wpList_append_own _ rfl _ _ 39 rfl w.heap.size 41 i0 (.agg #[.int .i64 0, .int .i64 0, .int .i64 0]) 3 24 Try.underlying39 hi q0 q1 q2 rfl (by decide) _ _ _ rfl (HO'.alloc _) ⟨V.heap.size, 0, none⟩ 1 1 [.int .i64 G1, .int .i64 G2, .int .i64 G3] rfl rfl hnw.out (fun u hu => by simp at hu; rcases hu with rfl | rfl | rfl <;> rfl) (by unfold maxLen; omega) (by omega) (by simp; omega) ?_; intro v' w3 hown3 hg3 _) | go_in)
          have HBW3 : Below w.heap.size w w3 := (HBV.out.alloc hzV _).grown hg3 (by simp; omega) (fun k e => (HO'.lt k e).1)
          exact ⟨⟨k + 1 + 1, by omega, by go_num, Lib.hid (by rw [HK.out, HKL.out]; exact hown3), Lib.hid HBW3⟩, by simp [RowKit.intOf]; omega⟩
        · obtain ⟨M, hM⟩ : ∃ M, M = mon (f (k + 1)).1 := ⟨_, rfl⟩
          have HNX : Hid (monsP f (k + 1 + 1) = monsP f (k + 1)) := Lib.hid (by show (if newW f (k + 1) = true then _ else _) = _; rw [if_neg hnw])
          have hne : (mon (f k).1 != M) = false := by
            refine Bool.eq_false_iff.2 fun h => hnw ?_
            unfold newW
            rw [Bool.or_eq_true]
            exact .inr (by rw [← hM]; exact h)
          rw [← hM] at HMK hb1 hb2
          obtain ⟨d, hd⟩ : ∃ d, d = (f (k + 1)).1 := ⟨_, rfl⟩
          rw [← hd] at HMK xa
          generalize mon (f k).1 = A at *
          generalize (f k).1 = dj at *
          clear hd hM hc hin HE HRT HML HFIN hnw
          go_wp2_with fail
          refine (HMK.out _).mono ?_
          rintro e w' ⟨rfl, rfl⟩
          go_wp2_with fail
          refine (HMJ.out _).mono ?_
          rintro e w' ⟨rfl, rfl⟩
          go_wp2
          exact ⟨⟨k + 1 + 1, by omega, by go_num, Lib.hid (by rw [HNX.out]; exact HO.out), HB⟩, by simp [RowKit.intOf]; omega⟩
    · obtain rfl : k = n := by omega
      have ho := HO.out
      obtain ⟨pv, cv, rfl⟩ := own_slice ho
      have hH := hrs_own (L := (monsP f k).map gE) (by rw [List.length_map]; exact ho)
      rw [List.length_map] at hH
      have HF2 := Lib.hid (HFIN.out pv wr (hH.congr (fun j hj => by rw [getD_at (monsP f k) 0 hj, getD_at ((monsP f k).map gE) (0, 0, 0) (by rw [List.length_map]; exact hj), List.getElem_map])))
      clear HO ho hH HFIN
      go_wp2
      go_ret
      exact ⟨pv, cv, rfl, HF2.out, HB.out⟩

end Go.Proofs.Ytlfflnfodnegnaa
