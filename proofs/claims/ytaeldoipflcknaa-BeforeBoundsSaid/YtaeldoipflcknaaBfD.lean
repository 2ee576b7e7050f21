/-
  What is proved: the contract of the document's own Check. Conditions: limits lie in memory as the contract says.
-/
import Derived.Test.YtaeldoipflcknaaBfC
namespace Go.Proofs.Ytaeldoipflcknaa
open Go Go.RowKit Go.Lib Go.Proofs
set_option linter.unusedVariables false

theorem hasL_hit {L : List Lm} {j k : Nat} (hj : j < k) (hk : k ≤ L.length) {s : ByteArray} (h : (L.getD j dL).1 = s) : hasL (L.take k) s = true := by
  unfold hasL
  refine List.any_eq_true.2 ⟨L.getD j dL, ?_, by simpa using h⟩
  have e : L.getD j dL = (L.take k).getD j dL := by
    rw [List.getD_eq_getElem?_getD, List.getD_eq_getElem?_getD, List.getElem?_take_of_lt hj]
  rw [e]
  exact getD_mem _ _ (by simp; omega)
theorem hasL_miss {L : List Lm} {j : Nat} (hj : j < L.length) {s : ByteArray} (h0 : hasL (L.take j) s = false) (h : (L.getD j dL).1 ≠ s) : hasL (L.take (j + 1)) s = false := by
  rw [take_at L dL hj]
  unfold hasL at h0 ⊢
  rw [List.any_append, h0]
  simpa using h
theorem ok_ways2 (m y : Int) : (okLm (⟨#[]⟩, m, y) = true ∧ decide (m < 0) = false ∧ decide (1000000 < m) = false ∧ decide (y < 0) = false ∧ decide (1125899906842624 < y) = false) ∨ (okLm (⟨#[]⟩, m, y) = false ∧ decide (m < 0) = true) ∨ (okLm (⟨#[]⟩, m, y) = false ∧ decide (m < 0) = false ∧ decide (1000000 < m) = true) ∨
    (okLm (⟨#[]⟩, m, y) = false ∧ decide (m < 0) = false ∧ decide (1000000 < m) = false ∧ decide (y < 0) = true) ∨ (okLm (⟨#[]⟩, m, y) = false ∧ decide (m < 0) = false ∧ decide (1000000 < m) = false ∧ decide (y < 0) = false ∧ decide (1125899906842624 < y) = true) := by
  simp only [okLm, partB, fit0, Bool.and_eq_true, Bool.and_eq_false_iff, decide_eq_true_eq, decide_eq_false_iff_not]
  omega

set_option maxHeartbeats 4000000 in
set_option maxRecDepth 100000 in
theorem rCheck_any (p : Option Addr) (cp : Nat) (L : List Lm) (w : World) (hn : L.length ≤ 4611686018427387904) (hz : SzL L) (h : LmLs w p L) :
    Calls Try.prog 29 #[.slice p L.length cp] w fun e w' => e = .returned (.int .i64 (chkV L)) ∧ Below w.heap.size w w' := by
  have HL := Lib.hid h
  have HZ := Lib.hid hz
  clear h hz
  by_cases h64 : 64 < L.length
  · have i1 : (64 : Int) < (L.length : Int) := by omega
    have hv : chkV L = 5 := by unfold chkV; rw [if_pos h64]
    rw [hv]
    clear hv
    go_enter Try.func29, Try.ntmps29
    go_wp2
    go_ret
    exact ⟨rfl, Below.refl _ _⟩
  have i1 : ¬ (64 : Int) < (L.length : Int) := by omega
  have hv : chkV L = (chkF L).1 := by unfold chkV; rw [if_neg h64]
  have HV := Lib.hid hv
  clear hv
  go_enter Try.func29, Try.ntmps29
  go_wp2
  go_loopw [3] (fun i wr => ∃ k : Nat, k ≤ L.length ∧ i = .int .i64 k ∧ Hid (chkF (L.take k) = (0, L.take k)) ∧ Hid (Below w.heap.size w wr)) (fun i _ => L.length - (RowKit.intOf i).toNat)
  case atStart => exact ⟨0, Nat.zero_le _, rfl, Lib.hid rfl, Lib.hid (Below.refl _ _)⟩
  case round =>
    rename World => wq
    obtain ⟨k, hk, rfl, HC, HB⟩ := hrel
    by_cases hlt : k < L.length
    · obtain ⟨b, o, rfl, hb, c0, c1, c2⟩ := LmLs.at HL.out hlt
      replace c0 := (HB.out.cell (p := ⟨b, o + k * 3, none⟩) hb).trans c0
      replace c1 := (HB.out.cell (p := ⟨b, o + k * 3 + 1, none⟩) hb).trans c1
      replace c2 := (HB.out.cell (p := ⟨b, o + k * 3 + 2, none⟩) hb).trans c2
      have hs := HZ.out k hlt
      have HN := Lib.hid (chk_next hlt HC.out)
      generalize hx : L.getD k dL = x at c0 c1 c2 hs HN
      replace hx := Lib.hid hx
      obtain ⟨s, m, y⟩ := x
      dsimp only at c0 c1 c2 hs HN
      have i2 : (k : Int) < (L.length : Int) := by omega
      have HI := Lib.hid (fun W => rName_any s (sz_big hs) W)
      have HW := Lib.hid (ok_ways2 m y)
      rw [show okLm (⟨#[]⟩, m, y) = okLm (s, m, y) from rfl] at HW
      obtain ⟨W1, hW1⟩ : ∃ W1, W1 = wq.alloc (.cells #[.string s, .int .i64 m, .int .i64 y] 47) := ⟨_, rfl⟩
      have hk1 : Below wq.heap.size wq W1 := by rw [hW1]; exact (Below.refl wq.heap.size wq).alloc (Nat.le_refl _) _
      have e0 : W1.cell? ⟨wq.heap.size, 0, none⟩ = some (.string s) := by rw [hW1, World.cell?_alloc_new]; rfl
      have e1 : W1.cell? ⟨wq.heap.size, 1, none⟩ = some (.int .i64 m) := by rw [hW1, World.cell?_alloc_new]; rfl
      have e2 : W1.cell? ⟨wq.heap.size, 2, none⟩ = some (.int .i64 y) := by rw [hW1, World.cell?_alloc_new]; rfl
      have HB1 := Lib.hid (HB.out.trans (hk1.mono HB.out.size))
      have hsz : wq.heap.size < W1.heap.size := World.block_lt_of_cell? _ _ e0
      go_upto_region 7 with fail
      rw [← hW1]
      clear hW1 c0 c1 c2 hk1
      generalize wq.heap.size = g at e0 e1 e2 hsz ⊢
      cases a1 : nameB s
      · have HE : Hid ((chkF L).1 = 12) := Lib.hid (by
          rcases HN.out with ⟨-, h⟩ | ⟨h, -⟩ | ⟨h, -⟩ | ⟨h, -⟩
          · exact h
          all_goals (rw [a1] at h; cases h))
        rw [a1] at HI
        clear HN a1
        go_wp2_with (first | (go_at_call 30; refine (HI.out _).mono ?_; rintro e w1 ⟨rfl, rfl⟩))
        go_ret
        exact ⟨by rw [HV.out, HE.out]; rfl, HB1.out⟩
      · rw [a1] at HI
        go_wp2_with (first | (go_at_call 30; refine (HI.out _).mono ?_; rintro e w1 ⟨rfl, rfl⟩))
        clear HI
        go_loopw [5] (fun jv wr => ∃ j : Nat, j ≤ k ∧ jv = .int .i64 j ∧ Hid (hasL (L.take j) s = false) ∧ wr.cell? ⟨g, 0, none⟩ = some (.string s) ∧ wr.cell? ⟨g, 1, none⟩ = some (.int .i64 m) ∧ wr.cell? ⟨g, 2, none⟩ = some (.int .i64 y) ∧ Hid (Below w.heap.size w wr)) (fun jv _ => k - (RowKit.intOf jv).toNat)
        case atStart => exact ⟨0, by omega, rfl, Lib.hid rfl, e0, e1, e2, HB1⟩
        case round =>
          clear e0 e1 e2 HB1 hsz
          obtain ⟨j, hj, rfl, HJ, e0, e1, e2, HB1⟩ := hrel
          by_cases hjk : j < k
          · obtain ⟨b', o', hp, hb', c0, -, -⟩ := LmLs.at HL.out (show j < L.length by omega)
            injection hp with hp
            injection hp with hp1 hp2 hp3
            subst hp1; subst hp2
            replace c0 := (HB1.out.cell (p := ⟨b, o + j * 3, none⟩) hb).trans c0
            have HH := Lib.hid (fun h => hasL_hit hjk (by omega) (L := L) (s := s) h)
            have HM := Lib.hid (fun h => hasL_miss (show j < L.length by omega) HJ.out h)
            generalize (L.getD j dL).1 = z at c0 HH HM
            have i3 : (j : Int) < (k : Int) := by omega
            have i4 : (j : Int) < (L.length : Int) := by omega
            have i5 : (0 : Int) ≤ (j : Int) := by omega
            by_cases e : z = s
            · subst e
              have HE : Hid ((chkF L).1 = 7) := Lib.hid (by
                have h7 := HH.out rfl
                rcases HN.out with ⟨h, -⟩ | ⟨-, -, h⟩ | ⟨-, h, -⟩ | ⟨-, h, -⟩
                · rw [a1] at h; cases h
                · exact h
                all_goals (rw [h7] at h; cases h))
              clear HN a1 HH HM HW
              go_wp2
              go_quiet (fail)
              go_wp2
              go_ret
              exact ⟨by rw [HV.out, HE.out]; rfl, Below.drewsN HB1.out _⟩
            · have d1 := ne_list e
              have HJ2 := Lib.hid (HM.out e)
              clear HH HM HW
              go_wp2
              go_quiet (fail)
              go_wp2
              exact ⟨⟨j + 1, by omega, by go_num, HJ2, e0, e1, e2, Lib.hid (Below.drewsN HB1.out _)⟩, by simp [RowKit.intOf]; omega⟩
          · obtain rfl : j = k := by omega
            have HN2 : Hid ((okLm (s, m, y) = false ∧ (chkF L).1 = 2) ∨ (okLm (s, m, y) = true ∧ chkF (L.take (j + 1)) = (0, L.take (j + 1)))) := Lib.hid (by
              have h7 := HJ.out
              rcases HN.out with ⟨h, -⟩ | ⟨-, h, -⟩ | ⟨-, -, h⟩ | ⟨-, -, h⟩
              · rw [a1] at h; cases h
              · rw [h7] at h; cases h
              · exact .inl h
              · exact .inr h)
            clear HN a1 HJ
            rcases HW.out with ⟨o9, d1, d2, d3, d4⟩ | ⟨o9, d1⟩ | ⟨o9, d1, d2⟩ | ⟨o9, d1, d2, d3⟩ | ⟨o9, d1, d2, d3, d4⟩
            · have HE : Hid (chkF (L.take (j + 1)) = (0, L.take (j + 1))) := Lib.hid (by
                rcases HN2.out with ⟨h, -⟩ | ⟨-, h⟩
                · rw [o9] at h; cases h
                · exact h)
              clear HN2 HW o9
              go_wp2
              exact ⟨⟨j + 1, by omega, by go_num, HE, HB1⟩, by simp [RowKit.intOf]; omega⟩
            all_goals
              have HE : Hid ((chkF L).1 = 2) := Lib.hid (by
                rcases HN2.out with ⟨-, h⟩ | ⟨h, -⟩
                · exact h
                · rw [o9] at h; cases h)
              clear HN2 HW o9
              go_wp2
              go_ret
              exact ⟨by rw [HV.out, HE.out]; rfl, HB1.out⟩
    · obtain rfl : k = L.length := by omega
      have hc := HC.out
      rw [List.take_length] at hc
      have HE : Hid (chkV L = 0) := Lib.hid (by rw [HV.out, hc])
      clear hc HC
      go_wp2
      go_ret
      exact ⟨by rw [HE.out]; rfl, HB.out⟩

end Go.Proofs.Ytaeldoipflcknaa
