/-
  What is proved: the contract of the document's own Split where nothing is wrong: the same parts as share.Split's. Conditions: the weights lie in memory as the contract says; an arrangement of the places by their rests is given.
-/
import Derived.Test.YtkhjlpjhmdmfiaaShareJ
import Derived.Lib.AppendZeros
namespace Go.Proofs.Ytkhjlpjhmdmfiaa
open Go Go.RowKit Go.Proofs

/-- What the document's Split leaves. -/
def RefOk (t : Int) (n : Nat) (wt f : Nat → Nat) (w : World) (e : Ending) (w' : World) : Prop := ∃ g cap, e = .returned (.tuple #[.slice (some ⟨g, 0, none⟩) n cap, .int .i64 0]) ∧ w.heap.size ≤ g ∧ g < w'.heap.size ∧ RowV w' g n (fun j => .int .i64 (sg t * (bump f (whN t.natAbs (sumN wt n) wt) (leftN t.natAbs (sumN wt n) wt n) j : Int))) ∧ Below w.heap.size w w'
theorem rowV_of_own {w : World} {base g n cap : Nat} {E : TypeId} {x : Nat → Int} (h : w.ownsRow base E 1 (.slice (some ⟨g, 0, none⟩) n cap) n (rowL x n)) : RowV w g n (fun j => .int .i64 (x j)) := fun j hj => by
  refine ⟨?_, h.frozenAt j⟩
  rw [h.cellAt j (by omega)]
  exact rowL_at x n j hj

set_option maxHeartbeats 4000000 in
set_option maxRecDepth 100000 in
theorem refSplit_pos (a wb o n cp S : Nat) (wt f : Nat → Nat) (w : World) (hab : a ≤ 1125899906842624) (hn : n ≤ 64) (hn0 : 0 < n) (hwb : wb < w.heap.size) (hc : ∀ j, j < n → w.cell? ⟨wb, o + j, none⟩ = some (.int .i64 (wt j : Int))) (hS : S = sumN wt n) (h0 : 0 < S) (hS2 : S ≤ 72057594037927936) (hg : Good (rsN a S wt) f 0 n)
    (HW : Hid (∀ W, Wts W (some ⟨wb, o, none⟩) n (fun j => (wt j : Int)) → Calls Try.prog 23 #[.int .i64 ((a : Int)), .slice (some ⟨wb, o, none⟩) n cp] W fun e w' => e = .returned (.int .i64 0) ∧ w' = W)) :
    Calls Try.prog 12 #[.int .i64 ((a : Int)), .slice (some ⟨wb, o, none⟩) n cp] w (RefOk ((a : Int)) n wt f w) := by
  have HLT := Lib.hid (left_lt (a := a) hS h0)
  have HLE : Hid (∀ j, j < n → wt j ≤ S) := Lib.hid (fun j hj => by rw [hS]; exact sumN_le hj)
  have HO := Lib.hid (fun j (hj : j < n) => over_any a (wt j) S hab (HLE.out j hj) h0 hS2)
  have HG := Lib.hid hg
  have HC := Lib.hid hc
  have HS := Lib.hid hS
  have HWw := Lib.hid (HW.out w (.inr ⟨wb, o, rfl, hc⟩))
  have dn : ¬ (a : Int) < 0 := by omega
  clear hg hc hS HW
  go_enter Try.func12, Try.ntmps12
  go_wp2_with fail
  refine (HWw.out).mono ?_
  rintro e w1 ⟨rfl, hw1⟩
  rw [hw1]
  clear hw1 w1 HWw
  go_wp2
  go_loop [8, 9] (fun s i => ∃ k acc : Nat, k ≤ n ∧ i = .int .i64 k ∧ s = .int .i64 acc ∧ acc ≤ S ∧ Hid (acc = sumN wt k)) (fun _ i => n - (RowKit.intOf i).toNat)
  case atStart => exact ⟨0, 0, Nat.zero_le _, rfl, rfl, by omega, Lib.hid rfl⟩
  case round =>
    obtain ⟨k, acc, hk, rfl, rfl, hacc, HA⟩ := hrel
    by_cases hlt : k < n
    · have ck := HC.out k hlt
      have hmono : sumN wt (k + 1) ≤ S := by rw [HS.out]; exact sumN_mono hlt
      obtain ⟨acc', hacc'⟩ : ∃ acc', acc' = acc + wt k := ⟨_, rfl⟩
      have HA2 : Hid (acc' = sumN wt (k + 1)) := Lib.hid (by rw [sumN, hacc', HA.out])
      have hb2 : acc' ≤ S := by rw [HA2.out]; exact hmono
      have v2 : (acc : Int) + (wt k : Int) = (acc' : Int) := by omega
      have v3 : IntKind.i64.wrap (acc' : Int) = (acc' : Int) := wrap_i _ (by omega) (by omega)
      have i1 : (k : Int) < (n : Int) := by omega
      clear hmono hacc'
      generalize wt k = x at ck v2
      go_wp2
      go_round
      case rel => exact ⟨k + 1, acc', by omega, by go_num, rfl, hb2, HA2⟩
      case measure => simp [RowKit.intOf]; omega
    · obtain rfl : n = k := by omega
      obtain rfl : S = acc := by rw [HA.out, HS.out]
      clear HA hlt hk hacc
      go_wp2
      have hO0 : w.ownsRow w.heap.size 30 1 (.slice none 0 0) 0 (rowL (fun j => (whN a S wt j : Int)) 0) := World.ownsRow_nil _ _ _ _
      have hR0 : w.ownsRow w.heap.size 2 1 (.slice none 0 0) 0 (rowL (fun j => (rsN a S wt j : Int)) 0) := World.ownsRow_nil _ _ _ _
      go_loopw [10, 11, 12, 13] (fun ov rv lv iv wr => ∃ k lf : Nat, k ≤ n ∧ iv = .int .i64 k ∧ lv = .int .i64 lf ∧ lf ≤ a ∧ Hid (lf + sumN (whN a S wt) k = a) ∧ Hid (wr.ownsRow w.heap.size 30 1 ov k (rowL (fun j => (whN a S wt j : Int)) k)) ∧ Hid (wr.ownsRow w.heap.size 2 1 rv k (rowL (fun j => (rsN a S wt j : Int)) k)) ∧ Below w.heap.size w wr) (fun _ _ _ iv _ => n - (RowKit.intOf iv).toNat)
      case atStart => exact ⟨0, a, by omega, rfl, rfl, Nat.le_refl _, Lib.hid rfl, Lib.hid hO0, Lib.hid hR0, Below.refl _ _⟩
      case round =>
        clear hO0 hR0
        obtain ⟨k, lf, hk, rfl, rfl, hlfa, HL, HO1, HR1, hb⟩ := hrel
        by_cases hlt : k < n
        · have ck : wr.cell? ⟨wb, o + k, none⟩ = some (.int .i64 (wt k : Int)) := (hb.cell (p := ⟨wb, o + k, none⟩) hwb).trans (HC.out k hlt)
          have hOk := Lib.hid (HO.out k hlt)
          have hQa := part_le a (wt k) S (HLE.out k hlt)
          have hsm : sumN (whN a S wt) (k + 1) ≤ sumN (whN a S wt) n := sumN_mono hlt
          have hsn : sumN (whN a S wt) n ≤ a := HLT.out.1
          have hL := HL.out
          rw [sumN] at hsm
          obtain ⟨Q, hQ⟩ : ∃ Q, Q = a * wt k / S := ⟨_, rfl⟩
          obtain ⟨R, hR⟩ : ∃ R, R = a * wt k % S := ⟨_, rfl⟩
          rw [show whN a S wt k = Q by rw [hQ]; rfl] at hsm
          obtain ⟨lf', hlf'⟩ : ∃ lf', lf' = lf - Q := ⟨_, rfl⟩
          have HL2 : Hid (lf' + sumN (whN a S wt) (k + 1) = a) := Lib.hid (by rw [sumN, show whN a S wt k = Q by rw [hQ]; rfl, hlf']; omega)
          have v6 : (lf : Int) - (Q : Int) = (lf' : Int) := by omega
          have v7 : IntKind.i64.wrap (lf' : Int) = (lf' : Int) := wrap_i _ (by omega) (by omega)
          rw [← hQ, ← hR] at hOk
          obtain ⟨v1, wA, hr1, ho1, hg1⟩ := app_own Try.underlying26 infoCents w.heap.size 26 wr _ k _ HO1.out (Q : Int) (by omega) hb.size
          have hbA0 := hb.alloc hb.size (.cells #[.int .i64 (Q : Int)] 30)
          have hbA : Below w.heap.size w wA := hbA0.grown hg1 hbA0.size (fun k hk => (HO1.out.lt k hk).1)
          have hR1A := (HR1.out.alloc (.cells #[.int .i64 (Q : Int)] 30)).kept hg1 (own_ne HO1.out HR1.out (by decide))
          obtain ⟨v2, wB, hr2, ho2, hg2⟩ := app_own Try.underlying24 infoI64 w.heap.size 24 wA _ k _ hR1A (R : Int) (by omega) hbA.size
          have hbB0 := hbA.alloc hbA.size (.cells #[.int .i64 (R : Int)] 2)
          have hbB : Below w.heap.size w wB := hbB0.grown hg2 hbB0.size (fun k hk => (hR1A.lt k hk).1)
          have ho1B := (ho1.alloc (.cells #[.int .i64 (R : Int)] 2)).kept hg2 (own_ne hR1A ho1 (by decide))
          have H1 : Hid (wB.ownsRow w.heap.size 30 1 v1 (k + 1) (rowL (fun j => (whN a S wt j : Int)) (k + 1))) := Lib.hid (by rw [rowL_succ, show whN a S wt k = Q by rw [hQ]; rfl]; exact ho1B)
          have H2 : Hid (wB.ownsRow w.heap.size 2 1 v2 (k + 1) (rowL (fun j => (rsN a S wt j : Int)) (k + 1))) := Lib.hid (by rw [rowL_succ, show rsN a S wt k = R by rw [hR]; rfl]; exact ho2)
          have R1 := Lib.hid hr1
          have R2 := Lib.hid hr2
          have i1 : (k : Int) < (n : Int) := by omega
          have hlfa' : lf' ≤ a := by omega
          clear hsm hsn hL hQ hR hlf' hQa hr1 hr2 ho1 ho2 hg1 hg2 hbA0 hbA hbB0 ho1B hR1A hb HL HO1 HR1
          generalize wt k = x at ck hOk
          go_wp2_with fail
          refine (hOk.out _).mono ?_
          rintro e w1 ⟨rfl, hw1⟩
          rw [hw1]
          clear hw1 w1 hOk
          go_wp2_with (first | (at_builtin; refine Lib.wpList_append_run _ rfl _ _ 26 26 rfl _ _ rfl rfl v1 wA (R1.out) ?_) | (at_builtin; refine Lib.wpList_append_run _ rfl _ _ 24 24 rfl _ _ rfl rfl v2 wB (R2.out) ?_))
          exact ⟨⟨k + 1, lf', by omega, by go_num, rfl, hlfa', HL2, H1, H2, hbB⟩, by simp [RowKit.intOf]; omega⟩
        · obtain rfl : n = k := by omega
          have hO := HO1.out
          have hR := HR1.out
          rcases hO.2 with ⟨_, hz⟩ | ⟨g1, c1, cur1, rfl, hg1, _, _⟩
          · omega
          rcases hR.2 with ⟨_, hz⟩ | ⟨g2, c2, cur2, rfl, hg2, _, _⟩
          · omega
          have hne : g2 ≠ g1 := by
            rcases own_ne hO hR (by decide) with h | h
            · simp [Value.ownBlock] at h
            · intro e; rw [e] at h; exact h rfl
          have hl1 : g1 < wr.heap.size := (hO.lt g1 rfl).2
          have HP0 : Hid (RowV wr g1 n (fun j => .int .i64 (bump f (whN a S wt) 0 j : Int))) := Lib.hid (rowV_of_own hO)
          have HM0 : Hid (RowV wr g2 n (fun j => .int .i64 (mark f (rsN a S wt) 0 j))) := Lib.hid (rowV_of_own hR)
          have hLL : a - sumN (whN a S wt) n < n := HLT.out.2.1
          have hL := HL.out
          have hlk : lf < n := by omega
          have HLF : Hid (lf = leftN a S wt n) := Lib.hid (by unfold leftN; omega)
          clear hLL hL HL HO1 HR1 hO hR hlt hk
          go_wp2
          go_loopw [12, 16] (fun lv _ wr => ∃ m rm : Nat, rm + m = lf ∧ lv = .int .i64 rm ∧ Hid (RowV wr g1 n (fun j => .int .i64 (bump f (whN a S wt) m j : Int))) ∧ Hid (RowV wr g2 n (fun j => .int .i64 (mark f (rsN a S wt) m j))) ∧ Below w.heap.size w wr ∧ g1 < wr.heap.size) (fun lv _ _ => (RowKit.intOf lv).toNat)
          case atStart => exact ⟨0, lf, rfl, rfl, HP0, HM0, hb, hl1⟩
          case round =>
            clear HP0 HM0 hb hl1
            obtain ⟨m, rm, hm, rfl, HP, HM, hb, hl1⟩ := hrel
            by_cases hr : 0 < rm
            · have dr : (0 : Int) < (rm : Int) := by omega
              have hmn : m < n := by omega
              go_wp2
              go_loopw [16, 17] (fun bv iv wx => ∃ b i q : Nat, b < i ∧ i ≤ n ∧ bv = .int .i64 b ∧ iv = .int .i64 i ∧ wx = wr.drewN q ∧ Hid (∀ j, j < i → mark f (rsN a S wt) m j ≤ mark f (rsN a S wt) m b) ∧ Hid (∀ j, j < b → mark f (rsN a S wt) m j < mark f (rsN a S wt) m b)) (fun _ iv _ => n - (RowKit.intOf iv).toNat)
              case atStart => exact ⟨0, 1, 0, by omega, by omega, rfl, rfl, rfl, Lib.hid (fun j hj => by rw [show j = 0 by omega]; exact Int.le_refl _), Lib.hid (fun j hj => by omega)⟩
              case round =>
                obtain ⟨b, i, q, hbi, hin, rfl, rfl, rfl, H1, H2⟩ := hrel
                by_cases hi : i < n
                · have ci := (HM.out i hi).1
                  have cb := (HM.out b (by omega)).1
                  obtain ⟨y, hy⟩ : ∃ y, y = mark f (rsN a S wt) m i := ⟨_, rfl⟩
                  obtain ⟨x, hx⟩ : ∃ x, x = mark f (rsN a S wt) m b := ⟨_, rfl⟩
                  simp only [← hy] at ci
                  simp only [← hx] at cb
                  have i1 : (i : Int) < (n : Int) := by omega
                  have i2 : (b : Int) < (n : Int) := by omega
                  by_cases hxy : x < y
                  · have K1 : Hid (∀ j, j < i + 1 → mark f (rsN a S wt) m j ≤ mark f (rsN a S wt) m i) := Lib.hid (fun j hj => by
                      by_cases e : j = i
                      · rw [e]; exact Int.le_refl _
                      · have := H1.out j (by omega); omega)
                    have K2 : Hid (∀ j, j < i → mark f (rsN a S wt) m j < mark f (rsN a S wt) m i) := Lib.hid (fun j hj => by have := H1.out j hj; omega)
                    clear hy hx H1 H2 HP HM HG HLT HLE HO HC HLF HS
                    go_wp2
                    go_quiet (fail)
                    go_wp2
                    exact ⟨⟨i, i + 1, _, by omega, by omega, rfl, by go_num, rfl, K1, K2⟩, by simp [RowKit.intOf]; omega⟩
                  · have K1 : Hid (∀ j, j < i + 1 → mark f (rsN a S wt) m j ≤ mark f (rsN a S wt) m b) := Lib.hid (fun j hj => by
                      by_cases e : j = i
                      · rw [e]; omega
                      · exact H1.out j (by omega))
                    clear hy hx H1 HP HM HG HLT HLE HO HC HLF HS
                    go_wp2
                    go_quiet (fail)
                    go_wp2
                    exact ⟨⟨b, i + 1, _, by omega, by omega, rfl, by go_num, rfl, K1, H2⟩, by simp [RowKit.intOf]; omega⟩
                · obtain rfl : n = i := by omega
                  have hsel := select HG.out hmn hbi H1.out H2.out
                  obtain ⟨B, hB⟩ : ∃ B, B = bump f (whN a S wt) m b := ⟨_, rfl⟩
                  have hBl := bump_le f (whN a S wt) m b
                  have hwl : whN a S wt b ≤ a := part_le a (wt b) S (HLE.out b hbi)
                  have cB := (HP.out b hbi).1
                  have fB := (HP.out b hbi).2
                  simp only [← hB] at cB
                  have cM := (HM.out b hbi).1
                  have fM := (HM.out b hbi).2
                  generalize mark f (rsN a S wt) m b = om at cM
                  obtain ⟨B', hB'⟩ : ∃ B', B' = B + 1 := ⟨_, rfl⟩
                  have v1 : (B : Int) + 1 = (B' : Int) := by omega
                  have v2 : IntKind.i64.wrap (B' : Int) = (B' : Int) := wrap_i _ (by omega) (by omega)
                  have v3 : (rm : Int) - 1 = ((rm - 1 : Nat) : Int) := by omega
                  have v4 : IntKind.i64.wrap ((rm - 1 : Nat) : Int) = ((rm - 1 : Nat) : Int) := wrap_i _ (by omega) (by omega)
                  have P1 := (HP.out.store b (.int .i64 (B' : Int))).far g2 b (.int .i64 (-1)) hne
                  have M1 := (HM.out.far g1 b (.int .i64 (B' : Int)) (fun e => hne e.symm)).store b (.int .i64 (-1))
                  have HP2 : Hid (RowV (((wr.drewN q).setCell ⟨g1, b, none⟩ (.int .i64 (B' : Int))).setCell ⟨g2, b, none⟩ (.int .i64 (-1))) g1 n (fun j => .int .i64 (bump f (whN a S wt) (m + 1) j : Int))) := Lib.hid (fun j hj => by
                    refine ⟨(P1 j hj).1.trans ?_, (P1 j hj).2⟩
                    simp only [bump]
                    by_cases e : j = b
                    · rw [if_pos e, if_pos (e.trans hsel), e, ← hB, hB']
                    · rw [if_neg e, if_neg (fun h => e (h.trans hsel.symm))])
                  have HM2 : Hid (RowV (((wr.drewN q).setCell ⟨g1, b, none⟩ (.int .i64 (B' : Int))).setCell ⟨g2, b, none⟩ (.int .i64 (-1))) g2 n (fun j => .int .i64 (mark f (rsN a S wt) (m + 1) j))) := Lib.hid (fun j hj => by
                    refine ⟨(M1 j hj).1.trans ?_, (M1 j hj).2⟩
                    simp only [mark]
                    by_cases e : j = b
                    · rw [if_pos e, if_pos (e.trans hsel)]
                    · rw [if_neg e, if_neg (fun h => e (h.trans hsel.symm))])
                  have i1 : (b : Int) < (n : Int) := by omega
                  have hbN := ((below_drewN hb q).setCell hg1 (p := ⟨g1, b, none⟩) (.int .i64 (B' : Int))).setCell hg2 (p := ⟨g2, b, none⟩) (.int .i64 (-1))
                  clear hB hB' hBl hwl P1 M1 H1 H2 hsel HP HM
                  go_wp2
                  exact ⟨⟨m + 1, rm - 1, by omega, rfl, HP2, HM2, hbN, by simpa [World.setCell] using hl1⟩, by simp [RowKit.intOf]; omega⟩
            · have dr : ¬ (0 : Int) < (rm : Int) := by omega
              obtain rfl : lf = m := by omega
              clear HM hr
              go_wp2
              go_loopw [18] (fun iv wr => ∃ i : Nat, i ≤ n ∧ iv = .int .i64 i ∧ Hid (RowV wr g1 n (fun j => .int .i64 (if j < i then (bump f (whN a S wt) lf j : Int) else (bump f (whN a S wt) lf j : Int)))) ∧ Below w.heap.size w wr ∧ g1 < wr.heap.size) (fun iv _ => n - (RowKit.intOf iv).toNat)
              case atStart => exact ⟨0, by omega, rfl, Lib.hid (fun j hj => by simpa using HP.out j hj), hb, hl1⟩
              case round =>
                clear HP hb hl1
                obtain ⟨i, hi, rfl, HP, hb, hl1⟩ := hrel
                by_cases hlt : i < n
                · obtain ⟨B, hB⟩ : ∃ B, B = bump f (whN a S wt) lf i := ⟨_, rfl⟩
                  have hBl := bump_le f (whN a S wt) lf i
                  have hwl : whN a S wt i ≤ a := part_le a (wt i) S (HLE.out i hlt)
                  have cB := (HP.out i hlt).1
                  have fB := (HP.out i hlt).2
                  simp only [Nat.lt_irrefl, if_false, ← hB] at cB
                  have v1 : IntKind.i64.wrap ((B : Int)) = (B : Int) := wrap_i _ (by omega) (by omega)
                  have P1 := HP.out.store i (.int .i64 ((B : Int)))
                  have HP2 : Hid (RowV (wr.setCell ⟨g1, i, none⟩ (.int .i64 ((B : Int)))) g1 n (fun j => .int .i64 (if j < i + 1 then (bump f (whN a S wt) lf j : Int) else (bump f (whN a S wt) lf j : Int)))) := Lib.hid (fun j hj => by
                    refine ⟨(P1 j hj).1.trans ?_, (P1 j hj).2⟩
                    show some (if j = i then _ else Value.int IntKind.i64 (if j < i then _ else _)) = some (Value.int IntKind.i64 (if j < i + 1 then _ else _))
                    by_cases e : j = i
                    · rw [if_pos e, if_pos (by omega), e, hB]
                    · rw [if_neg e]
                      by_cases e2 : j < i
                      · rw [if_pos e2, if_pos (by omega)]
                      · rw [if_neg e2, if_neg (by omega)])
                  have i1 : (i : Int) < (n : Int) := by omega
                  clear hB hBl hwl P1 HP
                  go_wp2
                  exact ⟨⟨i + 1, by omega, by go_num, HP2, hb.setCell hg1 _, by simpa [World.setCell] using hl1⟩, by simp [RowKit.intOf]; omega⟩
                · obtain rfl : n = i := by omega
                  go_wp2
                  go_ret2
                  refine ⟨g1, c1, rfl, hg1, hl1, fun j hj => ?_, hb⟩
                  have h := HP.out j hj
                  simp only [if_pos hj] at h
                  rw [show ((a : Int)).natAbs = a by omega, ← HS.out, ← HLF.out]
                  refine ⟨h.1.trans ?_, h.2⟩
                  rw [show sg ((a : Int)) = 1 by unfold sg; split <;> omega]
                  simp

set_option maxHeartbeats 4000000 in
set_option maxRecDepth 100000 in
theorem refSplit_neg (a wb o n cp S : Nat) (wt f : Nat → Nat) (w : World) (ha0 : 0 < a) (hab : a ≤ 1125899906842624) (hn : n ≤ 64) (hn0 : 0 < n) (hwb : wb < w.heap.size) (hc : ∀ j, j < n → w.cell? ⟨wb, o + j, none⟩ = some (.int .i64 (wt j : Int))) (hS : S = sumN wt n) (h0 : 0 < S) (hS2 : S ≤ 72057594037927936) (hg : Good (rsN a S wt) f 0 n)
    (HW : Hid (∀ W, Wts W (some ⟨wb, o, none⟩) n (fun j => (wt j : Int)) → Calls Try.prog 23 #[.int .i64 (-(a : Int)), .slice (some ⟨wb, o, none⟩) n cp] W fun e w' => e = .returned (.int .i64 0) ∧ w' = W)) :
    Calls Try.prog 12 #[.int .i64 (-(a : Int)), .slice (some ⟨wb, o, none⟩) n cp] w (RefOk (-(a : Int)) n wt f w) := by
  have HLT := Lib.hid (left_lt (a := a) hS h0)
  have HLE : Hid (∀ j, j < n → wt j ≤ S) := Lib.hid (fun j hj => by rw [hS]; exact sumN_le hj)
  have HO := Lib.hid (fun j (hj : j < n) => over_any a (wt j) S hab (HLE.out j hj) h0 hS2)
  have HG := Lib.hid hg
  have HC := Lib.hid hc
  have HS := Lib.hid hS
  have HWw := Lib.hid (HW.out w (.inr ⟨wb, o, rfl, hc⟩))
  have dn : -(a : Int) < 0 := by omega
  have un : IntKind.i64.wrap (a : Int) = (a : Int) := wrap_i _ (by omega) (by omega)
  have un2 : -(-(a : Int)) = (a : Int) := by omega
  clear hg hc hS HW
  go_enter Try.func12, Try.ntmps12
  go_wp2_with fail
  refine (HWw.out).mono ?_
  rintro e w1 ⟨rfl, hw1⟩
  rw [hw1]
  clear hw1 w1 HWw
  go_wp2
  go_loop [8, 9] (fun s i => ∃ k acc : Nat, k ≤ n ∧ i = .int .i64 k ∧ s = .int .i64 acc ∧ acc ≤ S ∧ Hid (acc = sumN wt k)) (fun _ i => n - (RowKit.intOf i).toNat)
  case atStart => exact ⟨0, 0, Nat.zero_le _, rfl, rfl, by omega, Lib.hid rfl⟩
  case round =>
    obtain ⟨k, acc, hk, rfl, rfl, hacc, HA⟩ := hrel
    by_cases hlt : k < n
    · have ck := HC.out k hlt
      have hmono : sumN wt (k + 1) ≤ S := by rw [HS.out]; exact sumN_mono hlt
      obtain ⟨acc', hacc'⟩ : ∃ acc', acc' = acc + wt k := ⟨_, rfl⟩
      have HA2 : Hid (acc' = sumN wt (k + 1)) := Lib.hid (by rw [sumN, hacc', HA.out])
      have hb2 : acc' ≤ S := by rw [HA2.out]; exact hmono
      have v2 : (acc : Int) + (wt k : Int) = (acc' : Int) := by omega
      have v3 : IntKind.i64.wrap (acc' : Int) = (acc' : Int) := wrap_i _ (by omega) (by omega)
      have i1 : (k : Int) < (n : Int) := by omega
      clear hmono hacc'
      generalize wt k = x at ck v2
      go_wp2
      go_round
      case rel => exact ⟨k + 1, acc', by omega, by go_num, rfl, hb2, HA2⟩
      case measure => simp [RowKit.intOf]; omega
    · obtain rfl : n = k := by omega
      obtain rfl : S = acc := by rw [HA.out, HS.out]
      clear HA hlt hk hacc
      go_wp2
      have hO0 : w.ownsRow w.heap.size 30 1 (.slice none 0 0) 0 (rowL (fun j => (whN a S wt j : Int)) 0) := World.ownsRow_nil _ _ _ _
      have hR0 : w.ownsRow w.heap.size 2 1 (.slice none 0 0) 0 (rowL (fun j => (rsN a S wt j : Int)) 0) := World.ownsRow_nil _ _ _ _
      go_loopw [10, 11, 12, 13] (fun ov rv lv iv wr => ∃ k lf : Nat, k ≤ n ∧ iv = .int .i64 k ∧ lv = .int .i64 lf ∧ lf ≤ a ∧ Hid (lf + sumN (whN a S wt) k = a) ∧ Hid (wr.ownsRow w.heap.size 30 1 ov k (rowL (fun j => (whN a S wt j : Int)) k)) ∧ Hid (wr.ownsRow w.heap.size 2 1 rv k (rowL (fun j => (rsN a S wt j : Int)) k)) ∧ Below w.heap.size w wr) (fun _ _ _ iv _ => n - (RowKit.intOf iv).toNat)
      case atStart => exact ⟨0, a, by omega, rfl, rfl, Nat.le_refl _, Lib.hid rfl, Lib.hid hO0, Lib.hid hR0, Below.refl _ _⟩
      case round =>
        clear hO0 hR0
        obtain ⟨k, lf, hk, rfl, rfl, hlfa, HL, HO1, HR1, hb⟩ := hrel
        by_cases hlt : k < n
        · have ck : wr.cell? ⟨wb, o + k, none⟩ = some (.int .i64 (wt k : Int)) := (hb.cell (p := ⟨wb, o + k, none⟩) hwb).trans (HC.out k hlt)
          have hOk := Lib.hid (HO.out k hlt)
          have hQa := part_le a (wt k) S (HLE.out k hlt)
          have hsm : sumN (whN a S wt) (k + 1) ≤ sumN (whN a S wt) n := sumN_mono hlt
          have hsn : sumN (whN a S wt) n ≤ a := HLT.out.1
          have hL := HL.out
          rw [sumN] at hsm
          obtain ⟨Q, hQ⟩ : ∃ Q, Q = a * wt k / S := ⟨_, rfl⟩
          obtain ⟨R, hR⟩ : ∃ R, R = a * wt k % S := ⟨_, rfl⟩
          rw [show whN a S wt k = Q by rw [hQ]; rfl] at hsm
          obtain ⟨lf', hlf'⟩ : ∃ lf', lf' = lf - Q := ⟨_, rfl⟩
          have HL2 : Hid (lf' + sumN (whN a S wt) (k + 1) = a) := Lib.hid (by rw [sumN, show whN a S wt k = Q by rw [hQ]; rfl, hlf']; omega)
          have v6 : (lf : Int) - (Q : Int) = (lf' : Int) := by omega
          have v7 : IntKind.i64.wrap (lf' : Int) = (lf' : Int) := wrap_i _ (by omega) (by omega)
          rw [← hQ, ← hR] at hOk
          obtain ⟨v1, wA, hr1, ho1, hg1⟩ := app_own Try.underlying26 infoCents w.heap.size 26 wr _ k _ HO1.out (Q : Int) (by omega) hb.size
          have hbA0 := hb.alloc hb.size (.cells #[.int .i64 (Q : Int)] 30)
          have hbA : Below w.heap.size w wA := hbA0.grown hg1 hbA0.size (fun k hk => (HO1.out.lt k hk).1)
          have hR1A := (HR1.out.alloc (.cells #[.int .i64 (Q : Int)] 30)).kept hg1 (own_ne HO1.out HR1.out (by decide))
          obtain ⟨v2, wB, hr2, ho2, hg2⟩ := app_own Try.underlying24 infoI64 w.heap.size 24 wA _ k _ hR1A (R : Int) (by omega) hbA.size
          have hbB0 := hbA.alloc hbA.size (.cells #[.int .i64 (R : Int)] 2)
          have hbB : Below w.heap.size w wB := hbB0.grown hg2 hbB0.size (fun k hk => (hR1A.lt k hk).1)
          have ho1B := (ho1.alloc (.cells #[.int .i64 (R : Int)] 2)).kept hg2 (own_ne hR1A ho1 (by decide))
          have H1 : Hid (wB.ownsRow w.heap.size 30 1 v1 (k + 1) (rowL (fun j => (whN a S wt j : Int)) (k + 1))) := Lib.hid (by rw [rowL_succ, show whN a S wt k = Q by rw [hQ]; rfl]; exact ho1B)
          have H2 : Hid (wB.ownsRow w.heap.size 2 1 v2 (k + 1) (rowL (fun j => (rsN a S wt j : Int)) (k + 1))) := Lib.hid (by rw [rowL_succ, show rsN a S wt k = R by rw [hR]; rfl]; exact ho2)
          have R1 := Lib.hid hr1
          have R2 := Lib.hid hr2
          have i1 : (k : Int) < (n : Int) := by omega
          have hlfa' : lf' ≤ a := by omega
          clear hsm hsn hL hQ hR hlf' hQa hr1 hr2 ho1 ho2 hg1 hg2 hbA0 hbA hbB0 ho1B hR1A hb HL HO1 HR1
          generalize wt k = x at ck hOk
          go_wp2_with fail
          refine (hOk.out _).mono ?_
          rintro e w1 ⟨rfl, hw1⟩
          rw [hw1]
          clear hw1 w1 hOk
          go_wp2_with (first | (at_builtin; refine Lib.wpList_append_run _ rfl _ _ 26 26 rfl _ _ rfl rfl v1 wA (R1.out) ?_) | (at_builtin; refine Lib.wpList_append_run _ rfl _ _ 24 24 rfl _ _ rfl rfl v2 wB (R2.out) ?_))
          exact ⟨⟨k + 1, lf', by omega, by go_num, rfl, hlfa', HL2, H1, H2, hbB⟩, by simp [RowKit.intOf]; omega⟩
        · obtain rfl : n = k := by omega
          have hO := HO1.out
          have hR := HR1.out
          rcases hO.2 with ⟨_, hz⟩ | ⟨g1, c1, cur1, rfl, hg1, _, _⟩
          · omega
          rcases hR.2 with ⟨_, hz⟩ | ⟨g2, c2, cur2, rfl, hg2, _, _⟩
          · omega
          have hne : g2 ≠ g1 := by
            rcases own_ne hO hR (by decide) with h | h
            · simp [Value.ownBlock] at h
            · intro e; rw [e] at h; exact h rfl
          have hl1 : g1 < wr.heap.size := (hO.lt g1 rfl).2
          have HP0 : Hid (RowV wr g1 n (fun j => .int .i64 (bump f (whN a S wt) 0 j : Int))) := Lib.hid (rowV_of_own hO)
          have HM0 : Hid (RowV wr g2 n (fun j => .int .i64 (mark f (rsN a S wt) 0 j))) := Lib.hid (rowV_of_own hR)
          have hLL : a - sumN (whN a S wt) n < n := HLT.out.2.1
          have hL := HL.out
          have hlk : lf < n := by omega
          have HLF : Hid (lf = leftN a S wt n) := Lib.hid (by unfold leftN; omega)
          clear hLL hL HL HO1 HR1 hO hR hlt hk
          go_wp2
          go_loopw [12, 16] (fun lv _ wr => ∃ m rm : Nat, rm + m = lf ∧ lv = .int .i64 rm ∧ Hid (RowV wr g1 n (fun j => .int .i64 (bump f (whN a S wt) m j : Int))) ∧ Hid (RowV wr g2 n (fun j => .int .i64 (mark f (rsN a S wt) m j))) ∧ Below w.heap.size w wr ∧ g1 < wr.heap.size) (fun lv _ _ => (RowKit.intOf lv).toNat)
          case atStart => exact ⟨0, lf, rfl, rfl, HP0, HM0, hb, hl1⟩
          case round =>
            clear HP0 HM0 hb hl1
            obtain ⟨m, rm, hm, rfl, HP, HM, hb, hl1⟩ := hrel
            by_cases hr : 0 < rm
            · have dr : (0 : Int) < (rm : Int) := by omega
              have hmn : m < n := by omega
              go_wp2
              go_loopw [16, 17] (fun bv iv wx => ∃ b i q : Nat, b < i ∧ i ≤ n ∧ bv = .int .i64 b ∧ iv = .int .i64 i ∧ wx = wr.drewN q ∧ Hid (∀ j, j < i → mark f (rsN a S wt) m j ≤ mark f (rsN a S wt) m b) ∧ Hid (∀ j, j < b → mark f (rsN a S wt) m j < mark f (rsN a S wt) m b)) (fun _ iv _ => n - (RowKit.intOf iv).toNat)
              case atStart => exact ⟨0, 1, 0, by omega, by omega, rfl, rfl, rfl, Lib.hid (fun j hj => by rw [show j = 0 by omega]; exact Int.le_refl _), Lib.hid (fun j hj => by omega)⟩
              case round =>
                obtain ⟨b, i, q, hbi, hin, rfl, rfl, rfl, H1, H2⟩ := hrel
                by_cases hi : i < n
                · have ci := (HM.out i hi).1
                  have cb := (HM.out b (by omega)).1
                  obtain ⟨y, hy⟩ : ∃ y, y = mark f (rsN a S wt) m i := ⟨_, rfl⟩
                  obtain ⟨x, hx⟩ : ∃ x, x = mark f (rsN a S wt) m b := ⟨_, rfl⟩
                  simp only [← hy] at ci
                  simp only [← hx] at cb
                  have i1 : (i : Int) < (n : Int) := by omega
                  have i2 : (b : Int) < (n : Int) := by omega
                  by_cases hxy : x < y
                  · have K1 : Hid (∀ j, j < i + 1 → mark f (rsN a S wt) m j ≤ mark f (rsN a S wt) m i) := Lib.hid (fun j hj => by
                      by_cases e : j = i
                      · rw [e]; exact Int.le_refl _
                      · have := H1.out j (by omega); omega)
                    have K2 : Hid (∀ j, j < i → mark f (rsN a S wt) m j < mark f (rsN a S wt) m i) := Lib.hid (fun j hj => by have := H1.out j hj; omega)
                    clear hy hx H1 H2 HP HM HG HLT HLE HO HC HLF HS
                    go_wp2
                    go_quiet (fail)
                    go_wp2
                    exact ⟨⟨i, i + 1, _, by omega, by omega, rfl, by go_num, rfl, K1, K2⟩, by simp [RowKit.intOf]; omega⟩
                  · have K1 : Hid (∀ j, j < i + 1 → mark f (rsN a S wt) m j ≤ mark f (rsN a S wt) m b) := Lib.hid (fun j hj => by
                      by_cases e : j = i
                      · rw [e]; omega
                      · exact H1.out j (by omega))
                    clear hy hx H1 HP HM HG HLT HLE HO HC HLF HS
                    go_wp2
                    go_quiet (fail)
                    go_wp2
                    exact ⟨⟨b, i + 1, _, by omega, by omega, rfl, by go_num, rfl, K1, H2⟩, by simp [RowKit.intOf]; omega⟩
                · obtain rfl : n = i := by omega
                  have hsel := select HG.out hmn hbi H1.out H2.out
                  obtain ⟨B, hB⟩ : ∃ B, B = bump f (whN a S wt) m b := ⟨_, rfl⟩
                  have hBl := bump_le f (whN a S wt) m b
                  have hwl : whN a S wt b ≤ a := part_le a (wt b) S (HLE.out b hbi)
                  have cB := (HP.out b hbi).1
                  have fB := (HP.out b hbi).2
                  simp only [← hB] at cB
                  have cM := (HM.out b hbi).1
                  have fM := (HM.out b hbi).2
                  generalize mark f (rsN a S wt) m b = om at cM
                  obtain ⟨B', hB'⟩ : ∃ B', B' = B + 1 := ⟨_, rfl⟩
                  have v1 : (B : Int) + 1 = (B' : Int) := by omega
                  have v2 : IntKind.i64.wrap (B' : Int) = (B' : Int) := wrap_i _ (by omega) (by omega)
                  have v3 : (rm : Int) - 1 = ((rm - 1 : Nat) : Int) := by omega
                  have v4 : IntKind.i64.wrap ((rm - 1 : Nat) : Int) = ((rm - 1 : Nat) : Int) := wrap_i _ (by omega) (by omega)
                  have P1 := (HP.out.store b (.int .i64 (B' : Int))).far g2 b (.int .i64 (-1)) hne
                  have M1 := (HM.out.far g1 b (.int .i64 (B' : Int)) (fun e => hne e.symm)).store b (.int .i64 (-1))
                  have HP2 : Hid (RowV (((wr.drewN q).setCell ⟨g1, b, none⟩ (.int .i64 (B' : Int))).setCell ⟨g2, b, none⟩ (.int .i64 (-1))) g1 n (fun j => .int .i64 (bump f (whN a S wt) (m + 1) j : Int))) := Lib.hid (fun j hj => by
                    refine ⟨(P1 j hj).1.trans ?_, (P1 j hj).2⟩
                    simp only [bump]
                    by_cases e : j = b
                    · rw [if_pos e, if_pos (e.trans hsel), e, ← hB, hB']
                    · rw [if_neg e, if_neg (fun h => e (h.trans hsel.symm))])
                  have HM2 : Hid (RowV (((wr.drewN q).setCell ⟨g1, b, none⟩ (.int .i64 (B' : Int))).setCell ⟨g2, b, none⟩ (.int .i64 (-1))) g2 n (fun j => .int .i64 (mark f (rsN a S wt) (m + 1) j))) := Lib.hid (fun j hj => by
                    refine ⟨(M1 j hj).1.trans ?_, (M1 j hj).2⟩
                    simp only [mark]
                    by_cases e : j = b
                    · rw [if_pos e, if_pos (e.trans hsel)]
                    · rw [if_neg e, if_neg (fun h => e (h.trans hsel.symm))])
                  have i1 : (b : Int) < (n : Int) := by omega
                  have hbN := ((below_drewN hb q).setCell hg1 (p := ⟨g1, b, none⟩) (.int .i64 (B' : Int))).setCell hg2 (p := ⟨g2, b, none⟩) (.int .i64 (-1))
                  clear hB hB' hBl hwl P1 M1 H1 H2 hsel HP HM
                  go_wp2
                  exact ⟨⟨m + 1, rm - 1, by omega, rfl, HP2, HM2, hbN, by simpa [World.setCell] using hl1⟩, by simp [RowKit.intOf]; omega⟩
            · have dr : ¬ (0 : Int) < (rm : Int) := by omega
              obtain rfl : lf = m := by omega
              clear HM hr
              go_wp2
              go_loopw [18] (fun iv wr => ∃ i : Nat, i ≤ n ∧ iv = .int .i64 i ∧ Hid (RowV wr g1 n (fun j => .int .i64 (if j < i then -(bump f (whN a S wt) lf j : Int) else (bump f (whN a S wt) lf j : Int)))) ∧ Below w.heap.size w wr ∧ g1 < wr.heap.size) (fun iv _ => n - (RowKit.intOf iv).toNat)
              case atStart => exact ⟨0, by omega, rfl, Lib.hid (fun j hj => by simpa using HP.out j hj), hb, hl1⟩
              case round =>
                clear HP hb hl1
                obtain ⟨i, hi, rfl, HP, hb, hl1⟩ := hrel
                by_cases hlt : i < n
                · obtain ⟨B, hB⟩ : ∃ B, B = bump f (whN a S wt) lf i := ⟨_, rfl⟩
                  have hBl := bump_le f (whN a S wt) lf i
                  have hwl : whN a S wt i ≤ a := part_le a (wt i) S (HLE.out i hlt)
                  have cB := (HP.out i hlt).1
                  have fB := (HP.out i hlt).2
                  simp only [Nat.lt_irrefl, if_false, ← hB] at cB
                  have v1 : IntKind.i64.wrap (-(B : Int)) = -(B : Int) := wrap_i _ (by omega) (by omega)
                  have P1 := HP.out.store i (.int .i64 (-(B : Int)))
                  have HP2 : Hid (RowV (wr.setCell ⟨g1, i, none⟩ (.int .i64 (-(B : Int)))) g1 n (fun j => .int .i64 (if j < i + 1 then -(bump f (whN a S wt) lf j : Int) else (bump f (whN a S wt) lf j : Int)))) := Lib.hid (fun j hj => by
                    refine ⟨(P1 j hj).1.trans ?_, (P1 j hj).2⟩
                    show some (if j = i then _ else Value.int IntKind.i64 (if j < i then _ else _)) = some (Value.int IntKind.i64 (if j < i + 1 then _ else _))
                    by_cases e : j = i
                    · rw [if_pos e, if_pos (by omega), e, hB]
                    · rw [if_neg e]
                      by_cases e2 : j < i
                      · rw [if_pos e2, if_pos (by omega)]
                      · rw [if_neg e2, if_neg (by omega)])
                  have i1 : (i : Int) < (n : Int) := by omega
                  clear hB hBl hwl P1 HP
                  go_wp2
                  exact ⟨⟨i + 1, by omega, by go_num, HP2, hb.setCell hg1 _, by simpa [World.setCell] using hl1⟩, by simp [RowKit.intOf]; omega⟩
                · obtain rfl : n = i := by omega
                  go_wp2
                  go_ret2
                  refine ⟨g1, c1, rfl, hg1, hl1, fun j hj => ?_, hb⟩
                  have h := HP.out j hj
                  simp only [if_pos hj] at h
                  rw [show (-(a : Int)).natAbs = a by omega, ← HS.out, ← HLF.out]
                  refine ⟨h.1.trans ?_, h.2⟩
                  rw [show sg (-(a : Int)) = -1 by unfold sg; split <;> omega]
                  simp

end Go.Proofs.Ytkhjlpjhmdmfiaa
