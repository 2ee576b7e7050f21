/-
  What is proved: the contract of the document's own Sum of a right pattern. Conditions: the free days lie in memory as the contract says.
-/
import Derived.Test.YtenamccikglbaaaWkI
import Derived.BigRegion
namespace Go.Proofs.Ytenamccikglbaaa
open Go Go.RowKit Go.Proofs
set_option linter.unusedVariables false

theorem wkM_any {q : Nat → Int} (h : chkW q = 0) (d : Int) : 0 ≤ wkM q d ∧ wkM q d ≤ 1440 := by
  unfold wkM
  have : (wkV d).toNat < 7 := by unfold wkV; split <;> omega
  exact chkW_bd h _ this
theorem one_pos {m : Int} (h : 0 < m) : one m = 1 := by unfold one; rw [if_neg (by omega)]
theorem one_zero {m : Int} (h0 : 0 ≤ m) (h : ¬ 0 < m) : m = 0 ∧ one m = 0 := by
  have : m = 0 := by omega
  subst this
  exact ⟨rfl, by unfold one; rw [if_pos rfl]⟩
theorem inR {a b : Int} {N : Nat} (hN : N = cnt a b) (x : Int) : (lo a ≤ x ∧ x < min b 84006) ↔ (lo a ≤ x ∧ x < lo a + N) := by
  rw [hN]; unfold lo cnt; omega

set_option maxHeartbeats 4000000 in
set_option maxRecDepth 100000 in
theorem rSum_any (q : Nat → Int) (F : List Int) (p : Option Addr) (c : Nat) (a b : Int) (w : World) (hq : chk q F = 0) (h : DaysIn w p F) :
    Calls Try.prog 14 #[.agg #[.int .i64 (q 0), .int .i64 (q 1), .int .i64 (q 2), .int .i64 (q 3), .int .i64 (q 4), .int .i64 (q 5), .int .i64 (q 6)], .slice p F.length c, .agg #[.int .i64 a, .int .i64 b]] w fun e w' => e = .returned (.tuple #[.int .i64 (minsV q F a b), .int .i64 (daysV q F a b)]) ∧ Below w.heap.size w w' := by
  obtain ⟨n, hnl⟩ : ∃ n, n = F.length := ⟨_, rfl⟩
  obtain ⟨R1, hR1⟩ : ∃ R, R = minsV q F a b := ⟨_, rfl⟩
  obtain ⟨R2, hR2⟩ : ∃ R, R = daysV q F a b := ⟨_, rfl⟩
  obtain ⟨W1, hW1⟩ : ∃ W1, W1 = (w.alloc (.cells #[.int .i64 (q 0), .int .i64 (q 1), .int .i64 (q 2), .int .i64 (q 3), .int .i64 (q 4), .int .i64 (q 5), .int .i64 (q 6)] 22)).alloc (.cells #[.int .i64 a, .int .i64 b] 37) := ⟨_, rfl⟩
  have hza : (w.alloc (.cells #[.int .i64 (q 0), .int .i64 (q 1), .int .i64 (q 2), .int .i64 (q 3), .int .i64 (q 4), .int .i64 (q 5), .int .i64 (q 6)] 22)).heap.size = w.heap.size + 1 := by simp
  have hb1 : Below (w.heap.size + 1) (w.alloc (.cells #[.int .i64 (q 0), .int .i64 (q 1), .int .i64 (q 2), .int .i64 (q 3), .int .i64 (q 4), .int .i64 (q 5), .int .i64 (q 6)] 22)) W1 := by rw [hW1]; exact (Below.refl _ _).alloc (by rw [hza]; exact Nat.le_refl _) _
  have hb0 : Below w.heap.size w W1 := ((Below.refl w.heap.size w).alloc (Nat.le_refl _) _).trans (hb1.mono (by omega))
  have HX : Hid (∀ k, k < 7 → W1.cell? ⟨w.heap.size, k, none⟩ = some (.int .i64 (q k))) := Lib.hid (fun k hk => (hb1.cell (p := ⟨w.heap.size, k, none⟩) (by show w.heap.size < _; omega)).trans (box7 q w 22 k hk))
  have s0 : W1.cell? ⟨w.heap.size + 1, 0, none⟩ = some (.int .i64 a) := by rw [hW1, ← hza, World.cell?_alloc_new]; rfl
  have s1 : W1.cell? ⟨w.heap.size + 1, 1, none⟩ = some (.int .i64 b) := by rw [hW1, ← hza, World.cell?_alloc_new]; rfl
  have hD := h.stay (hb0.mono (Nat.le_refl _))
  obtain ⟨hw0, hn4, hfr⟩ := chk_parts hq
  obtain ⟨N, hN⟩ : ∃ N : Nat, N = cnt a b := ⟨_, rfl⟩
  obtain ⟨A, hA⟩ : ∃ A : Int, A = max a (-25567) := ⟨_, rfl⟩
  obtain ⟨B, hB⟩ : ∃ B : Int, B = min b 84006 := ⟨_, rfl⟩
  have hAl : A = lo a := hA
  have hN1 : N ≤ 109573 := by have := cnt_bd a b; omega
  have hNAB : N = (B - A).toNat := by rw [hN, hA, hB]; rfl
  have hAb : -25567 ≤ A := by omega
  have hBb : B ≤ 84006 := by omega
  have HIR : Hid (∀ x, (A ≤ x ∧ x < B) ↔ (A ≤ x ∧ x < A + N)) := Lib.hid (fun x => by rw [hAl, hB]; exact inR hN x)
  have HM : Hid (∀ k, 0 ≤ sumD (fun d => if d ∈ F.take k then 0 else wkM q d) A N ∧ sumD (fun d => if d ∈ F.take k then 0 else wkM q d) A N ≤ 157785120) := Lib.hid (fun k => by
    have := sumD_bd (f := fun d => if d ∈ F.take k then 0 else wkM q d) (m := 1440) (a := A) (fun d => by have := wkM_any hw0 d; show 0 ≤ (if d ∈ F.take k then 0 else wkM q d) ∧ (if d ∈ F.take k then 0 else wkM q d) ≤ 1440; split <;> omega) N
    omega)
  have HO : Hid (∀ k, 0 ≤ sumD (fun d => if d ∈ F.take k then 0 else one (wkM q d)) A N ∧ sumD (fun d => if d ∈ F.take k then 0 else one (wkM q d)) A N ≤ 109573) := Lib.hid (fun k => by
    have := sumD_bd (f := fun d => if d ∈ F.take k then 0 else one (wkM q d)) (m := 1) (a := A) (fun d => by have := one_bd (wkM q d); show 0 ≤ (if d ∈ F.take k then 0 else one (wkM q d)) ∧ (if d ∈ F.take k then 0 else one (wkM q d)) ≤ 1; split <;> omega) N
    omega)
  have HM1 : Hid (∀ k : Nat, k ≤ N → 0 ≤ sumD (wkM q) A k ∧ sumD (wkM q) A k ≤ 157785120) := Lib.hid (fun k hk => by
    have := sumD_bd (f := wkM q) (m := 1440) (a := A) (fun d => wkM_any hw0 d) k
    omega)
  have HO1 : Hid (∀ k : Nat, k ≤ N → 0 ≤ sumD (fun d => one (wkM q d)) A k ∧ sumD (fun d => one (wkM q d)) A k ≤ 109573) := Lib.hid (fun k hk => by
    have := sumD_bd (f := fun d => one (wkM q d)) (m := 1) (a := A) (fun d => one_bd _) k
    omega)
  have HS1 : Hid (sumD (fun d => if d ∈ F.take 0 then 0 else wkM q d) A N = sumD (wkM q) A N) := Lib.hid (sumD_congr fun d _ _ => by simp)
  have HS2 : Hid (sumD (fun d => if d ∈ F.take 0 then 0 else one (wkM q d)) A N = sumD (fun d => one (wkM q d)) A N) := Lib.hid (sumD_congr fun d _ _ => by simp)
  have HE1 : Hid (R1 = sumD (fun d => if d ∈ F.take n then 0 else wkM q d) A N) := Lib.hid (by
    rw [hR1, hnl, List.take_length]
    rcases Nat.eq_zero_or_pos N with h0 | h0
    · unfold minsV; rw [← hN, h0]; rfl
    · have := cnt_in (a := a) (b := b) (by omega)
      have := sumD_on hq (fun m => m) rfl (a := lo a) (n := N) this.1 (by rw [hN]; exact this.2)
      rw [hAl]
      unfold minsV
      rw [← hN]
      exact this.symm)
  have HE2 : Hid (R2 = sumD (fun d => if d ∈ F.take n then 0 else one (wkM q d)) A N) := Lib.hid (by
    rw [hR2, hnl, List.take_length]
    rcases Nat.eq_zero_or_pos N with h0 | h0
    · unfold daysV; rw [← hN, h0]; rfl
    · have := cnt_in (a := a) (b := b) (by omega)
      have := sumD_on hq one (by unfold one; rw [if_pos rfl]) (a := lo a) (n := N) this.1 (by rw [hN]; exact this.2)
      rw [hAl]
      unfold daysV
      rw [← hN]
      exact this.symm)
  have HFR := Lib.hid hfr
  have HB := Lib.hid (chkW_bd hw0)
  have HNL := Lib.hid hnl
  have HIN : Hid (∀ k, k < n → inB (F.getD k 0) = true) := Lib.hid (fun k hk => (frBad_none hfr k (by omega)).1)
  have hD := Lib.hid hD
  have HNAB := Lib.hid hNAB
  rw [← hnl] at hn4 ⊢
  rw [← hR1, ← hR2]
  clear hnl hR1 hR2 hza hb1 h hq hw0 hfr hN hAl hNAB
  go_enter Try.func14, Try.ntmps14
  go_wp2
  rw [← hW1]
  clear hW1
  go_region
  rw [← hA, ← hB]
  clear hA hB
  obtain ⟨W2, hW2⟩ : ∃ W2, W2 = W1.drew := ⟨_, rfl⟩
  have hb2 : Below w.heap.size w W2 := by rw [hW2]; exact hb0.drew
  have HX2 : Hid (∀ k, k < 7 → W2.cell? ⟨w.heap.size, k, none⟩ = some (.int .i64 (q k))) := Lib.hid (fun k hk => by rw [hW2]; exact HX.out k hk)
  have HD2 : Hid (DaysIn W2 p F) := Lib.hid (by rw [hW2]; exact hD.out)
  rw [← hW2]
  clear hW2 hb0 HX hD s0 s1
  go_wp2
  go_loop [10, 11, 12] (fun mv ov dv => ∃ (j : Nat) (D m o : Int), j ≤ N ∧ dv = .int .i64 D ∧ mv = .int .i64 m ∧ ov = .int .i64 o ∧ Hid (D = A + (j : Int)) ∧ Hid (m = sumD (wkM q) A j) ∧ Hid (o = sumD (fun d => one (wkM q d)) A j) ∧ -25567 ≤ D ∧ 0 ≤ m ∧ m ≤ 157785120 ∧ 0 ≤ o ∧ o ≤ 109573) (fun _ _ dv => (B - RowKit.intOf dv).toNat)
  case atStart => exact ⟨0, A, 0, 0, by omega, rfl, rfl, rfl, Lib.hid (by omega), Lib.hid rfl, Lib.hid rfl, hAb, by omega, by omega, by omega, by omega⟩
  case round =>
    obtain ⟨j, D, m, o, hj, rfl, rfl, rfl, HD, Hm, Ho, hDl, hm1, hm2, ho1, ho2⟩ := hrel
    by_cases hlt : D < B
    · have hin : inB D = true := inB_yes hDl (by omega)
      have hjN : j < N := by have := HD.out; have := HNAB.out; omega
      obtain ⟨h1, h2⟩ := inB_iff.1 hin
      have hwb := wkV_bd hin
      have HW := Lib.hid (rwk_any D h1 h2)
      obtain ⟨k, hk⟩ : ∃ k : Nat, wkV D = k := ⟨(wkV D).toNat, by omega⟩
      have hk7 : k < 7 := by omega
      have hkI : (k : Int) < 7 := by omega
      rw [hk] at HW
      have xk := HX2.out k hk7
      have hqb := HB.out k hk7
      have HmN : Hid (m + q k = sumD (wkM q) A (j + 1)) := Lib.hid (by rw [sumD_next, ← Hm.out, ← HD.out]; unfold wkM; rw [hk]; rfl)
      have HoN : Hid (o + one (q k) = sumD (fun d => one (wkM q d)) A (j + 1)) := Lib.hid (by rw [sumD_next, ← Ho.out, ← HD.out]; unfold wkM; rw [hk]; rfl)
      have b1 := HM1.out (j + 1) (by omega)
      have b2 := HO1.out (j + 1) (by omega)
      rw [← HmN.out] at b1
      rw [← HoN.out] at b2
      clear hk hwb h1 h2 hin Hm Ho
      generalize q k = y at *
      by_cases hy : 0 < y
      · have e1 := one_pos hy
        rw [e1] at HoN b2
        clear e1
        go_wp2_with fail
        refine (HW.out _).mono ?_
        rintro e w' ⟨rfl, rfl⟩
        go_wp2
        go_round
        case rel => exact ⟨j + 1, D + 1, m + y, o + 1, by omega, rfl, rfl, rfl, Lib.hid (by have := HD.out; omega), HmN, HoN, by omega, by omega, by omega, by omega, by omega⟩
        case measure => simp [RowKit.intOf]; omega
      · obtain ⟨e0, e1⟩ := one_zero hqb.1 hy
        rw [e1] at HoN b2
        have HZ := Lib.hid e0
        clear e1 e0
        go_wp2_with fail
        refine (HW.out _).mono ?_
        rintro e w' ⟨rfl, rfl⟩
        go_wp2
        go_round
        case rel => exact ⟨j + 1, D + 1, m + y, o, by omega, rfl, rfl, rfl, Lib.hid (by have := HD.out; omega), HmN, Lib.hid (by rw [← HoN.out]; omega), by omega, by omega, by omega, by omega, by omega⟩
        case measure => simp [RowKit.intOf]; omega
    · have hjN : j = N := by have := HD.out; have := HNAB.out; omega
      have Hm0 : Hid (m = sumD (fun d => if d ∈ F.take 0 then 0 else wkM q d) A N) := Lib.hid (by rw [HS1.out, ← hjN]; exact Hm.out)
      have Ho0 : Hid (o = sumD (fun d => if d ∈ F.take 0 then 0 else one (wkM q d)) A N) := Lib.hid (by rw [HS2.out, ← hjN]; exact Ho.out)
      clear hjN Hm Ho HS1 HS2 HM1 HO1 hj
      go_wp2
      go_loop [10, 11, 14] (fun mv ov kv => ∃ (k : Nat) (m o : Int), k ≤ n ∧ kv = .int .i64 k ∧ mv = .int .i64 m ∧ ov = .int .i64 o ∧ Hid (m = sumD (fun d => if d ∈ F.take k then 0 else wkM q d) A N) ∧ Hid (o = sumD (fun d => if d ∈ F.take k then 0 else one (wkM q d)) A N)) (fun _ _ kv => n - (RowKit.intOf kv).toNat)
      case atStart => exact ⟨0, m, o, by omega, rfl, rfl, rfl, Hm0, Ho0⟩
      case round =>
        clear Hm0 Ho0 hm1 hm2 ho1 ho2 hlt hDl HD
        obtain ⟨k, m, o, hk, rfl, rfl, rfl, Hm, Ho⟩ := hrel
        have b1 := HM.out k
        rw [← Hm.out] at b1
        have b2 := HO.out k
        rw [← Ho.out] at b2
        by_cases hlt : k < n
        · have hlI : (k : Int) < (n : Int) := by omega
          rcases HD2.out with h | ⟨bb, oo, rfl, hc⟩
          · have := HNL.out; rw [h] at this; simp at this; omega
          have xk := hc k (by have := HNL.out; omega)
          have hin := HIN.out k hlt
          obtain ⟨h1, h2⟩ := inB_iff.1 hin
          have HW := Lib.hid (rwk_any _ h1 h2)
          have hwb := wkV_bd hin
          obtain ⟨v, hv⟩ : ∃ v : Nat, wkV (F.getD k 0) = v := ⟨(wkV (F.getD k 0)).toNat, by omega⟩
          rw [hv] at HW
          have hv7 : v < 7 := by omega
          have hvI : (v : Int) < 7 := by omega
          have yk := HX2.out v hv7
          have hqb := HB.out v hv7
          have f1 := sumD_free HFR.out (wkM q) A N (k := k) (by have := HNL.out; omega)
          have f2 := sumD_free HFR.out (fun d => one (wkM q d)) A N (k := k) (by have := HNL.out; omega)
          have hwm : wkM q (F.getD k 0) = q v := by unfold wkM; rw [hv]; rfl
          have hir := HIR.out (F.getD k 0)
          have b3 := HM.out (k + 1)
          have b4 := HO.out (k + 1)
          rw [← Hm.out] at f1
          rw [← Ho.out] at f2
          rw [hwm] at f1 f2
          rw [f1] at b3
          rw [f2] at b4
          have F1 := Lib.hid f1
          have F2 := Lib.hid f2
          clear f1 f2 hwm hv hc hin h1 h2 hwb
          generalize q v = y at *
          generalize F.getD k 0 = x at *
          by_cases hA1 : A ≤ x
          · by_cases hB1 : x < B
            · have hc1 : A ≤ x ∧ x < A + N := hir.1 ⟨hA1, hB1⟩
              rw [if_pos hc1] at F1 F2 b3 b4
              have e2 : decide (A ≤ x) = true := decide_eq_true hA1
              have e3 : decide (x < B) = true := decide_eq_true hB1
              clear hir hc1
              by_cases hy : 0 < y
              · have e1 := one_pos hy
                rw [e1] at F2 b4
                clear e1
                go_wp2_with fail
                refine (HW.out _).mono ?_
                rintro e w' ⟨rfl, rfl⟩
                go_wp2
                go_round
                case rel => exact ⟨k + 1, m - y, o - 1, by omega, by go_num, rfl, rfl, Lib.hid F1.out.symm, Lib.hid F2.out.symm⟩
                case measure => simp [RowKit.intOf]; omega
              · obtain ⟨e0, e1⟩ := one_zero hqb.1 hy
                rw [e1] at F2 b4
                clear e1 e0
                go_wp2_with fail
                refine (HW.out _).mono ?_
                rintro e w' ⟨rfl, rfl⟩
                go_wp2
                go_round
                case rel => exact ⟨k + 1, m - y, o, by omega, by go_num, rfl, rfl, Lib.hid F1.out.symm, Lib.hid (by rw [F2.out]; omega)⟩
                case measure => simp [RowKit.intOf]; omega
            · have hc1 : ¬ (A ≤ x ∧ x < A + N) := fun h => hB1 (hir.2 h).2
              rw [if_neg hc1] at F1 F2 b3 b4
              have e2 : decide (A ≤ x) = true := decide_eq_true hA1
              have e3 : decide (x < B) = false := decide_eq_false hB1
              clear hir hc1
              go_wp2
              go_round
              case rel => exact ⟨k + 1, m, o, by omega, by go_num, rfl, rfl, Lib.hid (by rw [F1.out]; omega), Lib.hid (by rw [F2.out]; omega)⟩
              case measure => simp [RowKit.intOf]; omega
          · have hc1 : ¬ (A ≤ x ∧ x < A + N) := fun h => hA1 h.1
            rw [if_neg hc1] at F1 F2 b3 b4
            have e2 : decide (A ≤ x) = false := decide_eq_false hA1
            clear hir hc1
            go_wp2
            go_round
            case rel => exact ⟨k + 1, m, o, by omega, by go_num, rfl, rfl, Lib.hid (by rw [F1.out]; omega), Lib.hid (by rw [F2.out]; omega)⟩
            case measure => simp [RowKit.intOf]; omega
        · obtain rfl : k = n := by omega
          have G1 : Hid (R1 = m) := Lib.hid (by rw [HE1.out]; exact Hm.out.symm)
          have G2 : Hid (R2 = o) := Lib.hid (by rw [HE2.out]; exact Ho.out.symm)
          clear HE1 HE2 Hm Ho
          go_wp2
          go_ret2
          exact ⟨by rw [G1.out, G2.out]; rfl, hb2⟩

end Go.Proofs.Ytenamccikglbaaa
