/-
  What is proved: the contract of leave.Fold. Conditions: at most 900 moves, in memory.
-/
import Derived.Test.YtpejdbnphjheeaaDoorLvG
namespace Go.Proofs.YtpejdbnphjheeaaDoor
open Go Go.RowKit Go.Proofs Go.Proofs.YtpejdbnphjheeaaDoor.Cv

set_option maxHeartbeats 4000000 in
set_option maxRecDepth 100000 in
theorem fold_bad (Y0 Ca Ex u : Int) (p : Option Addr) (n cp : Nat) (D G T : Nat → Int) (w : World) (hn : n ≤ 900) (hM : MvIn w p n D G T) (hL : Len w) (hv : checkV Y0 Ca Ex u n D G T ≠ 0) :
    Calls Tryd.prog 10 #[.agg #[.int .i64 Y0, .int .i64 Ca, .int .i64 Ex], .int .i64 u, .slice p n cp] w (FoldPost Y0 Ca Ex u n D G T w) := by
  obtain ⟨W1, hW1⟩ : ∃ W1, W1 = (w.alloc (.cells #[.int .i64 Y0, .int .i64 Ca, .int .i64 Ex] 23)).alloc (.cells #[.int .i64 0, .int .i64 0, .int .i64 0, .int .i64 0] 28) := ⟨_, rfl⟩
  have hb0 : Below w.heap.size w W1 := by rw [hW1]; exact two_new _ _
  have hr : W1.heap[w.heap.size + 1]? = some (.cells #[.int .i64 0, .int .i64 0, .int .i64 0, .int .i64 0] 28 (0, 0)) := by
    rw [hW1]
    have := heap_new (w.alloc (.cells #[.int .i64 Y0, .int .i64 Ca, .int .i64 Ex] 23)) (.cells #[.int .i64 0, .int .i64 0, .int .i64 0, .int .i64 0] 28)
    simpa using this
  have HC := Lib.hid (check_any Y0 Ca Ex u p n cp D G T W1 (by omega) (hM.below hb0 (Nat.le_refl _)) (hL.below hb0 (Nat.le_refl _)))
  have HV := Lib.hid hv
  obtain ⟨V, hV⟩ : ∃ V, V = checkV Y0 Ca Ex u n D G T := ⟨_, rfl⟩
  rw [← hV] at HC hv
  have HVV := Lib.hid hV
  have dV : (V != 0) = true := by simp [hv]
  rw [hW1] at HC
  clear hM hL hv hV
  go_enter Tryd.func10, Tryd.ntmps10
  go_wp2_with fail
  refine (HC.out).mono ?_
  rintro e w2 ⟨rfl, hb⟩
  rw [← hW1] at hb
  have hr2 := (hb.block _ (lt_of_at hr)).trans hr
  have k0 := cell_of hr2 0 rfl
  have k1 := cell_of hr2 1 rfl
  have k2 := cell_of hr2 2 rfl
  have k3 := cell_of hr2 3 rfl
  have fz : ∀ i, w2.frozen? ⟨w.heap.size + 1, i, none⟩ = false := fun i => by simp [World.frozen?, hr2]
  have f0 := fz 0
  have f1 := fz 1
  have f2 := fz 2
  have f3 := fz 3
  clear fz hr hr2 hW1
  go_wp2
  have hb2 := hb0.trans (hb.mono hb0.size)
  refine bodyPost_ret (v := .tuple #[.agg #[.int .i64 0, .int .i64 0, .int .i64 0, .int .i64 0], .int .i64 V]) (by simp [results, Tryd.results10, go_sem, k0, k1, k2, k3]) rfl ⟨?_, .inl ⟨HV.out, by rw [HVV.out]⟩⟩
  exact (((hb2.setCell (by simp) _).setCell (by simp) _).setCell (by simp) _).setCell (by simp) _

set_option maxHeartbeats 8000000 in
set_option maxRecDepth 100000 in
theorem fold_good (Y0 Ca Ex u : Int) (p : Option Addr) (n cp : Nat) (D G T : Nat → Int) (w : World) (hn : n ≤ 900) (hcp : n ≤ cp) (hM : MvIn w p n D G T) (hL : Len w) (hv : checkV Y0 Ca Ex u n D G T = 0) :
    Calls Tryd.prog 10 #[.agg #[.int .i64 Y0, .int .i64 Ca, .int .i64 Ex], .int .i64 u, .slice p n cp] w (FoldPost Y0 Ca Ex u n D G T w) := by
  obtain ⟨⟨y0, y9, c0, c9, x0, x9⟩, hu, -, hg, hmono⟩ := check_zero hv
  obtain ⟨Yu, mu, du, u1, u2, u3, u4, hTo⟩ := toY hu
  obtain ⟨W1, hW1⟩ : ∃ W1, W1 = (w.alloc (.cells #[.int .i64 Y0, .int .i64 Ca, .int .i64 Ex] 23)).alloc (.cells #[.int .i64 0, .int .i64 0, .int .i64 0, .int .i64 0] 28) := ⟨_, rfl⟩
  have hb0 : Below w.heap.size w W1 := by rw [hW1]; exact two_new _ _
  have hp : W1.heap[w.heap.size]? = some (.cells #[.int .i64 Y0, .int .i64 Ca, .int .i64 Ex] 23 (0, 0)) := by
    rw [hW1]
    exact (Below.heap_alloc _ _ _ (by simp)).trans (heap_new _ _)
  have hr : W1.heap[w.heap.size + 1]? = some (.cells #[.int .i64 0, .int .i64 0, .int .i64 0, .int .i64 0] 28 (0, 0)) := by
    rw [hW1]
    have := heap_new (w.alloc (.cells #[.int .i64 Y0, .int .i64 Ca, .int .i64 Ex] 23)) (.cells #[.int .i64 0, .int .i64 0, .int .i64 0, .int .i64 0] 28)
    simpa using this
  have HC := Lib.hid (check_any Y0 Ca Ex u p n cp D G T W1 (by omega) (hM.below hb0 (Nat.le_refl _)) (hL.below hb0 (Nat.le_refl _)))
  rw [hv, hW1] at HC
  have HTO := Lib.hid hTo
  have fd : ∀ W, (Instr.field 51 (.agg #[.int .i64 Yu, .int .i64 mu, .int .i64 du]) 0).run Tryd.prog W = .ok (.int .i64 Yu) W := fun _ => by kernel_rfl
  have HV := Lib.hid hv
  have HM := Lib.hid hM
  have HL := Lib.hid hL
  have HG := Lib.hid hg
  have HMO := Lib.hid hmono
  have HU := Lib.hid (show yearIn u Yu from ⟨u1, u2, u3, u4⟩)
  have hbs : w.heap.size < W1.heap.size := lt_of_at hp
  have hbs1 : w.heap.size + 1 < W1.heap.size := lt_of_at hr
  have q0 : W1.cell? ⟨w.heap.size, 0, none⟩ = some (.int .i64 Y0) := cell_of hp 0 rfl
  obtain ⟨K, hK⟩ : ∃ K, K = (Yu + 1 - Y0).toNat := ⟨_, rfl⟩
  have HK := Lib.hid hK
  clear hM hL hv hg hmono hTo hu u3 u4 hK
  go_enter Tryd.func10, Tryd.ntmps10
  go_wp2_with fail
  refine (HC.out).mono ?_
  rintro e w2 ⟨rfl, hb⟩
  rw [← hW1] at hb
  clear hW1 HC
  have q2 := (hb.cell (p := ⟨w.heap.size, 0, none⟩) hbs).trans q0
  have hbs2 : w.heap.size < w2.heap.size := Nat.lt_of_lt_of_le hbs hb.size
  obtain ⟨w3, hw3⟩ : ∃ w3, w3 = w2.alloc (.cells #[.int .i64 0, .int .i64 0, .int .i64 0, .int .i64 0, .int .i64 0] 50) := ⟨_, rfl⟩
  have hb3 : Below w2.heap.size w2 w3 := by rw [hw3]; exact (Below.refl _ _).alloc (Nat.le_refl _) _
  have hb13 : Below W1.heap.size W1 w3 := hb.trans (hb3.mono hb.size)
  have HF0 := Lib.hid (show FoldW w w.heap.size (w.heap.size + 1) w2.heap.size Y0 Ca Ex ⟨0, 0, 0, 0, 0⟩ w3 from ⟨hb0.trans (hb13.mono hb0.size), (hb13.block _ hbs).trans hp, (hb13.block _ hbs1).trans hr, by rw [hw3]; exact heap_new _ _, Nat.le_refl _, Nat.le_succ _, Nat.le_trans hb0.size hb.size⟩)
  clear hb13 hb3 hb hp hr q0
  go_wp2
  rw [← hw3]
  clear hw3 q2
  obtain ⟨gb, hgb⟩ : ∃ gb, gb = w2.heap.size := ⟨_, rfl⟩
  rw [← hgb] at HF0 ⊢
  clear hgb
  go_loopw [2, 10] (fun lv yv wr => ∃ (i j0 : Nat) (pl : Option Addr) (cl : Nat), i ≤ K ∧ yv = .int .i64 (Y0 + (i : Int)) ∧ lv = .slice pl (n - j0 : Nat) cl ∧ j0 ≤ n ∧ n - j0 ≤ cl ∧ Hid (j0 = ahead D (jan (Y0 + (i : Int))) n) ∧ Hid (MvIn w pl (n - j0) (fun j => D (j0 + j)) (fun j => G (j0 + j)) (fun j => T (j0 + j))) ∧ Hid (Inv (1000000 * ((j0 : Int) + 2 * (i : Int))) (yearsE Y0 Ca Ex u (mvL n D G T) i)) ∧ Hid (FoldW w w.heap.size (w.heap.size + 1) gb Y0 Ca Ex (yearsE Y0 Ca Ex u (mvL n D G T) i) wr)) (fun _ yv _ => (Yu + 1 - RowKit.intOf yv).toNat)
  case atStart => exact ⟨0, 0, p, cp, by omega, congrArg (Value.int .i64) (by omega), rfl, by omega, by omega, Lib.hid (ahead_is (by omega) (fun j h => by omega) (fun h => by have := (HG.out 0 h).2.1; simpa using this)).symm, Lib.hid (by simpa using HM.out), Lib.hid (Inv.zero (by omega)), HF0⟩
  case round =>
    clear HF0
    obtain ⟨i, j0, pl, cl, hi, rfl, rfl, hj0, hcl, HJ, HMl, HIN, HF⟩ := hrel
    have HLw := Lib.hid (HL.out.below HF.out.below (Nat.le_refl _))
    go_wp2_with fail
    refine (HTO.out _ HLw.out).mono ?_
    rintro e w4 ⟨rfl, q4, os4, hw4⟩
    have hb4 : Below wr.heap.size wr w4 := by rw [hw4]; exact ⟨rfl, rfl, rfl, by rw [Go.Sort.size_grow]; exact Nat.le_add_right _ _, fun i hi => Go.Sort.heap_grow_old _ _ hi⟩
    clear hw4
    have HF4 := Lib.hid (HF.out.keep hb4)
    clear HF HLw hb4
    by_cases hlt : Y0 + (i : Int) ≤ Yu
    · obtain ⟨b0, b1, b2, b3, b4⟩ := HF4.out.bal.cells
      obtain ⟨p0, p1, p2⟩ := HF4.out.plan1
      obtain ⟨B, hB⟩ : ∃ B, yearsE Y0 Ca Ex u (mvL n D G T) i = B := ⟨_, rfl⟩
      rw [hB] at HF4 HIN b0 b1 b2 b3 b4
      have HB := Lib.hid hB
      clear hB
      have hgb4 : gb < w4.heap.size := lt_of_at HF4.out.bal
      obtain ⟨w5, hw5⟩ : ∃ w5, w5 = w4.alloc (.cells #[.int .i64 B.fr, .int .i64 B.ca, .int .i64 B.gr, .int .i64 B.ta, .int .i64 B.lo] 50) := ⟨_, rfl⟩
      have hb5 : Below w4.heap.size w4 w5 := by rw [hw5]; exact (Below.refl _ _).alloc (Nat.le_refl _) _
      have HA5 := Lib.hid (show BalAt w5 w4.heap.size B by rw [hw5]; exact heap_new _ _)
      have HF5 := Lib.hid (HF4.out.keep hb5)
      have HOF := Lib.hid (ofYear_any pl (n - j0) cl _ _ _ (Y0 + (i : Int)) w5 (by omega) hcl (HMl.out.below HF5.out.below (Nat.le_refl _)) (fun j hj => (HG.out (j0 + j) (by omega)).1) (HL.out.below HF5.out.below (Nat.le_refl _)))
      rw [hw5] at HOF
      go_wp2_with fail
      refine (HOF.out).mono ?_
      rintro e w6 ⟨cp', rfl, hb6⟩
      rw [← hw5] at hb6
      obtain ⟨m, hm⟩ : ∃ m, ahead (fun j => D (j0 + j)) (jan (Y0 + (i : Int) + 1)) (n - j0) = m := ⟨_, rfl⟩
      have hmn : m ≤ n - j0 := by rw [← hm]; exact ahead_le _ _
      have HMM := Lib.hid hm
      rw [hm]
      clear hm
      have HF6 := Lib.hid (HF5.out.keep hb6)
      have HA6 := Lib.hid (HA5.out.below hb6)
      have HM6 := Lib.hid (HMl.out.below HF6.out.below (Nat.le_refl _))
      obtain ⟨N1, hN1⟩ : ∃ N1, N1 = n - j0 := ⟨_, rfl⟩
      have HN1 := Lib.hid hN1
      rw [← hN1] at HM6 hmn hcl ⊢
      clear hN1
      have hN9 : N1 ≤ 900 := by rw [HN1.out]; omega
      have i1 : (m : Int) ≤ (N1 : Int) := by omega
      have i2 : (N1 : Int) ≤ (cl : Int) := by omega
      obtain ⟨p0', p1', p2'⟩ := HF6.out.plan1
      clear HF5 HA5 HF4 hw5 HOF hb5 hb6 b0 b1 b2 b3 b4 p0 p1 p2
      go_upto_region 10 with fail
      go_cut [2] (fun s2 wx => (∃ pl2 cl2, s2 = .slice pl2 (N1 - m) cl2 ∧ N1 - m ≤ cl2 ∧ Hid (MvIn w pl2 (N1 - m) (fun j => D (j0 + (m + j))) (fun j => G (j0 + (m + j))) (fun j => T (j0 + (m + j))))) ∧ wx = w6)
      case first =>
        by_cases hcm : cl = m
        · subst hcm
          go_wp2
          go_meet
          case rel => exact ⟨⟨pl, 0, by rw [show N1 - cl = 0 by omega], by omega, Lib.hid (.inl (by omega))⟩, rfl⟩
        · go_wp2
          go_meet
          case rel => exact ⟨⟨_, _, rfl, by omega, Lib.hid (by have := HMl.out; rw [← HN1.out] at this; exact this.rest hmn)⟩, rfl⟩
      case rest =>
      obtain ⟨⟨pl2, cl2, rfl, hcl2, HM2⟩, rfl⟩ := hcut
      clear i1 i2
      have hy1 : 1900 ≤ Y0 + (i : Int) := by omega
      have hy2 : Y0 + (i : Int) ≤ 2199 := by omega
      have hMm : MvIn wc pl m (fun j => D (j0 + j)) (fun j => G (j0 + j)) (fun j => T (j0 + j)) := by
        rcases HM6.out with h | ⟨b, o, h, hc⟩
        · exact .inl (by omega)
        · exact .inr ⟨b, o, h, fun j hj => hc j (by omega)⟩
      have HAC := Lib.hid (acts_any Y0 Ca Ex (Y0 + (i : Int)) y0 (by omega) hy2 c0 c9 x0 x9 pl m cp' _ _ _ wc (by omega) hMm (fun j hj => (HG.out (j0 + j) (by have := HN1.out; omega)).2.2) (HL.out.below HF6.out.below (Nat.le_refl _)))
      clear hMm HM6
      go_wp2_with fail
      refine (HAC.out).mono ?_
      rintro e w7 ⟨pa, ca, L, f, rfl, hE, hb7, hL7, hR⟩
      obtain ⟨es, hes⟩ : ∃ es, es = evsOf Y0 Ex (Y0 + (i : Int)) m (fun j => D (j0 + j)) (fun j => G (j0 + j)) (fun j => T (j0 + j)) := ⟨_, rfl⟩
      rw [← hes] at hE hR ⊢
      have HES := Lib.hid hes
      have HE := Lib.hid hE
      have HL7 := Lib.hid hL7
      have HR := Lib.hid hR
      have HF7 := Lib.hid (HF6.out.keep hb7)
      have HA7 := Lib.hid (HA6.out.below hb7)
      have hga : w4.heap.size ≠ gb := by omega
      have hgc : gb < wc.heap.size := lt_of_at HF6.out.bal
      obtain ⟨N, hN⟩ : ∃ N, N = es.length := ⟨_, rfl⟩
      have HN := Lib.hid hN
      have hN2 : N ≤ m + 2 := by rw [hN, hes]; unfold evsOf; simp only [List.length_append, List.length_map, List.length_range]; split <;> split <;> simp <;> omega
      have hN9 : N ≤ 902 := by rw [hN, hes]; unfold evsOf; simp only [List.length_append, List.length_map, List.length_range]; split <;> split <;> simp <;> omega
      rw [← hN] at HR ⊢
      clear HAC HF6 HA6 hb7 hes hE hL7 hR p0' p1' p2' hN
      obtain ⟨NN, hNN⟩ : ∃ NN : Int, NN = 1000000 * ((j0 : Int) + 2 * (i : Int)) := ⟨_, rfl⟩
      have hNN9 : 0 ≤ NN ∧ NN ≤ 2000000000 := by omega
      rw [← hNN] at HIN
      have HNN := Lib.hid hNN
      clear hNN
      go_wp2
      go_loopw [14, 45] (fun _ kv wx => ∃ k : Nat, k ≤ N ∧ kv = .int .i64 k ∧ Hid (FoldW w w.heap.size (w.heap.size + 1) gb Y0 Ca Ex (actsB u Ca es f B k) wx) ∧ Hid (Ss.But gb w7 wx) ∧ Hid (Inv (NN + 1000000 * (k : Int)) (actsB u Ca es f B k))) (fun _ kv _ => N - (RowKit.intOf kv).toNat)
      case atStart => exact ⟨0, by omega, rfl, HF7, Lib.hid (Ss.But.refl _ _), Lib.hid (by simpa [actsB] using HIN.out)⟩
      case round =>
        obtain ⟨k, hk, rfl, HFx, HBx, HIx⟩ := hrel
        by_cases hkN : k < N
        · rcases HR.out with h | ⟨g, rfl, hgg, hRow, hGood⟩
          · omega
          have hfk := (hGood.2.1 k (by omega) hkN).2
          have hRx := row_but hRow HBx.out (by omega)
          obtain ⟨r0, r1, -, -⟩ := hRx.2 k hkN
          have hEx := HE.out.keep (KeepT.butB HF7.out.bal HBx.out)
          have hev := hEx.2 (f k) (by rw [hEx.1, ← HN.out]; exact hfk)
          have hsucc := actsB_succ u Ca es f B k
          change wr.cell? _ = some (.int .i64 (Sl.get L (f k)).1) at r0
          change wr.cell? _ = some (.func (.func (Sl.get L (f k)).2.1) #[] (Sl.get L (f k)).2.2) at r1
          clear hRow hGood hRx hEx hgg
          obtain ⟨s, hs⟩ : ∃ s, s = Sl.get L (f k) := ⟨_, rfl⟩
          obtain ⟨e, he⟩ : ∃ e, e = es.getD (f k) (.exp 0) := ⟨_, rfl⟩
          rw [← hs] at r0 r1 hev
          rw [← he] at hev hsucc
          clear hs he hfk
          obtain ⟨b, hb⟩ : ∃ b, b = actsB u Ca es f B k := ⟨_, rfl⟩
          rw [← hb] at HFx HIx hsucc
          have HSU := Lib.hid hsucc
          have HIN2 := Lib.hid (inv_step (u := u) HIx.out (by omega) c0 hev.2.1)
          rw [← hsucc] at HIN2
          clear hb hsucc
          obtain ⟨x0, x1, x2, x3, x4⟩ := HFx.out.bal.cells
          have hgx : gb < wr.heap.size := lt_of_at HFx.out.bal
          have i1 : (k : Int) < (N : Int) := by omega
          have HFA := Lib.hid (HFx.out.keep ((Below.refl wr.heap.size wr).alloc (Nat.le_refl _) (.cells #[.int .i64 s.1, .func (.func s.2.1) #[] s.2.2] 58)))
          have HBA := Lib.hid (but_below HBx.out ((Below.refl wr.heap.size wr).alloc (Nat.le_refl _) (.cells #[.int .i64 s.1, .func (.func s.2.1) #[] s.2.2] 58)))
          by_cases hday : s.1 ≤ u
          · have d1 : decide (s.1 ≤ u) = true := decide_eq_true hday
            have hact : stepE u Ca b e = e.act Ca b := by unfold stepE; rw [← hev.1, if_pos hday]
            have HDO := Lib.hid (ev_do (hev.keep (KeepT.alloc wr (.cells #[.int .i64 s.1, .func (.func s.2.1) #[] s.2.2] 58))) c0 c9 HIx.out (by omega))
            rw [← hact, ← HSU.out] at HDO
            obtain ⟨b', hb'⟩ : ∃ b', b' = actsB u Ca es f B (k + 1) := ⟨_, rfl⟩
            rw [← hb'] at HDO HIN2
            have HB' := Lib.hid hb'
            obtain ⟨s1, s2, s3⟩ := s
            obtain ⟨hd0, hok, h3⟩ := hev
            simp only at r0 r1 hday d1 HFA HBA HDO h3
            clear hb' hact HSU hd0 hok
            have fin : ∀ w9, Below (wr.alloc (.cells #[.int .i64 s1, .func (.func s2) #[] s3] 58)).heap.size (wr.alloc (.cells #[.int .i64 s1, .func (.func s2) #[] s3] 58)) w9 → FoldW w w.heap.size (w.heap.size + 1) gb Y0 Ca Ex b w9 ∧ Ss.But gb w7 w9 := fun w9 h9 => ⟨HFA.out.keep h9, but_below HBA.out h9⟩
            have FIN := Lib.hid fin
            clear fin HFA HBA HFx HBx HIx
            cases e with
            | turn dd =>
              obtain ⟨rfl, gq, yq, xq, rfl, -⟩ := h3
              have HD : Hid (Calls Tryd.prog 36 #[.agg #[.int .i64 b.fr, .int .i64 b.ca, .int .i64 b.gr, .int .i64 b.ta, .int .i64 b.lo], .pointer (some ⟨gq, 0, none⟩)] _ _) := HDO
              clear HDO
              go_wp2_with fail
              refine (HD.out).mono ?_
              rintro ee w9 ⟨rfl, hb9⟩
              obtain ⟨hF9, hB9⟩ := FIN.out w9 hb9
              have HF9 := Lib.hid hF9
              have HB9 := Lib.hid hB9
              obtain ⟨z0, z1, z2, z3, z4⟩ := hF9.bal.cells
              have fz0 := hF9.bal.frozen 0
              have fz1 := hF9.bal.frozen 1
              have fz2 := hF9.bal.frozen 2
              have fz3 := hF9.bal.frozen 3
              have fz4 := hF9.bal.frozen 4
              clear FIN hF9 hB9 hb9 HD x0 x1 x2 x3 x4
              unfold Bal.v
              go_wp2
              exact ⟨⟨k + 1, by omega, by go_num, Lib.hid (by rw [← HB'.out]; exact HF9.out.put b'), Lib.hid (putB_but HB9.out b'), Lib.hid (by rw [← HB'.out]; have := HIN2.out; rwa [show NN + 1000000 * (k : Int) + 1000000 = NN + 1000000 * ((k + 1 : Nat) : Int) by omega] at this)⟩, by simp [RowKit.intOf]; omega⟩
            | exp dd =>
              obtain ⟨rfl, rfl⟩ := h3
              have HD : Hid (Calls Tryd.prog 38 #[.agg #[.int .i64 b.fr, .int .i64 b.ca, .int .i64 b.gr, .int .i64 b.ta, .int .i64 b.lo]] _ _) := HDO
              clear HDO
              go_wp2_with fail
              refine (HD.out).mono ?_
              rintro ee w9 ⟨rfl, hb9⟩
              obtain ⟨hF9, hB9⟩ := FIN.out w9 hb9
              have HF9 := Lib.hid hF9
              have HB9 := Lib.hid hB9
              obtain ⟨z0, z1, z2, z3, z4⟩ := hF9.bal.cells
              have fz0 := hF9.bal.frozen 0
              have fz1 := hF9.bal.frozen 1
              have fz2 := hF9.bal.frozen 2
              have fz3 := hF9.bal.frozen 3
              have fz4 := hF9.bal.frozen 4
              clear FIN hF9 hB9 hb9 HD x0 x1 x2 x3 x4
              unfold Bal.v
              go_wp2
              exact ⟨⟨k + 1, by omega, by go_num, Lib.hid (by rw [← HB'.out]; exact HF9.out.put b'), Lib.hid (putB_but HB9.out b'), Lib.hid (by rw [← HB'.out]; have := HIN2.out; rwa [show NN + 1000000 * (k : Int) + 1000000 = NN + 1000000 * ((k + 1 : Nat) : Int) by omega] at this)⟩, by simp [RowKit.intOf]; omega⟩
            | mv dd gg tt =>
              obtain ⟨rfl, gq, rfl, -⟩ := h3
              have HD : Hid (Calls Tryd.prog 39 #[.agg #[.int .i64 b.fr, .int .i64 b.ca, .int .i64 b.gr, .int .i64 b.ta, .int .i64 b.lo], .pointer (some ⟨gq, 0, none⟩)] _ _) := HDO
              clear HDO
              go_wp2_with fail
              refine (HD.out).mono ?_
              rintro ee w9 ⟨rfl, hb9⟩
              obtain ⟨hF9, hB9⟩ := FIN.out w9 hb9
              have HF9 := Lib.hid hF9
              have HB9 := Lib.hid hB9
              obtain ⟨z0, z1, z2, z3, z4⟩ := hF9.bal.cells
              have fz0 := hF9.bal.frozen 0
              have fz1 := hF9.bal.frozen 1
              have fz2 := hF9.bal.frozen 2
              have fz3 := hF9.bal.frozen 3
              have fz4 := hF9.bal.frozen 4
              clear FIN hF9 hB9 hb9 HD x0 x1 x2 x3 x4
              unfold Bal.v
              go_wp2
              exact ⟨⟨k + 1, by omega, by go_num, Lib.hid (by rw [← HB'.out]; exact HF9.out.put b'), Lib.hid (putB_but HB9.out b'), Lib.hid (by rw [← HB'.out]; have := HIN2.out; rwa [show NN + 1000000 * (k : Int) + 1000000 = NN + 1000000 * ((k + 1 : Nat) : Int) by omega] at this)⟩, by simp [RowKit.intOf]; omega⟩
          · have d1 : decide (s.1 ≤ u) = false := decide_eq_false hday
            have hact : stepE u Ca b e = b := by unfold stepE; rw [← hev.1, if_neg hday]
            rw [← HSU.out] at hact
            have HACT := Lib.hid hact
            obtain ⟨s1, s2, s3⟩ := s
            simp only at r0 r1 hday d1 HFA HBA
            clear hact hev HSU
            go_wp2
            exact ⟨⟨k + 1, by omega, by go_num, Lib.hid (by rw [HACT.out]; exact HFA.out), HBA, Lib.hid (by have := HIN2.out; rwa [show NN + 1000000 * (k : Int) + 1000000 = NN + 1000000 * ((k + 1 : Nat) : Int) by omega] at this)⟩, by simp [RowKit.intOf]; omega⟩
        · obtain rfl : k = N := by omega
          have HYI := Lib.hid (show actsB u Ca es f B k = yearsE Y0 Ca Ex u (mvL n D G T) (i + 1) from Eq.trans (year_is (u := u) (Ca := Ca) (B := B) (f := f) (L := L) hy1 hy2 x0 HMO.out (fun j hj => (HG.out j hj).1) HJ.out HMM.out HES.out HN.out (fun x hx => (HE.out.2 x (by rw [HE.out.1, ← HN.out]; exact hx)).1) (by
            rcases HR.out with h | ⟨g, -, -, -, hGood⟩
            · exact Ss.good_none _ _ _ _ (by omega)
            · exact hGood)) (by rw [← HB.out]; rfl))
          have HAx := Lib.hid (show BalAt wr w4.heap.size B from (HBx.out.block _ (lt_of_at HA7.out) hga).trans HA7.out)
          have HF2 := HFx
          rw [HYI.out] at HF2
          have HI2 := HIx
          rw [HYI.out] at HI2
          obtain ⟨a0, a1, a2, a3, a4⟩ := HAx.out.cells
          obtain ⟨x0', x1', x2', x3', x4'⟩ := HF2.out.bal.cells
          obtain ⟨B2, hB2⟩ : ∃ B2, B2 = yearsE Y0 Ca Ex u (mvL n D G T) (i + 1) := ⟨_, rfl⟩
          rw [← hB2] at HF2 HI2 x0' x1' x2' x3' x4'
          have HB2 := Lib.hid hB2
          clear HFx HIx HBx HYI HAx hB2 HF7 HA7 HR HE HL7
          have HRND : Hid (∃ (i' j' : Nat) (pl' : Option Addr) (cl' : Nat), i' ≤ K ∧ Value.int .i64 (Y0 + (i : Int) + 1) = .int .i64 (Y0 + (i' : Int)) ∧ Value.slice pl2 (N1 - m) cl2 = .slice pl' (n - j' : Nat) cl' ∧ j' ≤ n ∧ n - j' ≤ cl' ∧ Hid (j' = ahead D (jan (Y0 + (i' : Int))) n) ∧ Hid (MvIn w pl' (n - j') (fun j => D (j' + j)) (fun j => G (j' + j)) (fun j => T (j' + j))) ∧ Hid (Inv (1000000 * ((j' : Int) + 2 * (i' : Int))) (yearsE Y0 Ca Ex u (mvL n D G T) i')) ∧ Hid (FoldW w w.heap.size (w.heap.size + 1) gb Y0 Ca Ex (yearsE Y0 Ca Ex u (mvL n D G T) i') wr)) := Lib.hid (by
            have hn1 := HN1.out
            have hKK := HK.out
            refine ⟨i + 1, j0 + m, pl2, cl2, by omega, congrArg (Value.int .i64) (by omega), by rw [show N1 - m = n - (j0 + m) by omega], by omega, by omega, Lib.hid ?_, Lib.hid ?_, Lib.hid ?_, Lib.hid ?_⟩
            · rw [show Y0 + ((i + 1 : Nat) : Int) = Y0 + (i : Int) + 1 by omega]
              exact next_is (by have := jan_mono (Y0 + (i : Int)) (Y0 + (i : Int) + 1) (by omega); omega) HMO.out HJ.out HMM.out
            · have := HM2.out
              rw [show N1 - m = n - (j0 + m) by omega] at this
              simpa only [Nat.add_assoc] using this
            · rw [← HB2.out]
              have hnn := HNN.out
              exact HI2.out.mono (by omega)
            · rw [← HB2.out]; exact HF2.out)
          have hms : (Yu + 1 - intOf (Value.int .i64 (Y0 + (i : Int) + 1))).toNat < (Yu + 1 - intOf (Value.int .i64 (Y0 + (i : Int)))).toNat := by simp [RowKit.intOf]; omega
          by_cases hre : N1 - m = 0
          · by_cases heq : B2 = B
            · have HEND := Lib.hid (show yearsE Y0 Ca Ex u (mvL n D G T) (Yu + 1 - Y0).toNat = B2 from by
                rw [HB2.out]
                refine brk_is y0 c0 x0 HU.out rfl (by exact hlt) (fun j hj => (HG.out j hj).2.2) (N := NN) (by rw [HB.out]; exact HIN.out) ?_ (by rw [← HB2.out, HB.out]; exact heq)
                have hn1 := HN1.out
                have := next_is (F := jan (Y0 + (i : Int) + 1)) (by have := jan_mono (Y0 + (i : Int)) (Y0 + (i : Int) + 1) (by omega); omega) HMO.out HJ.out HMM.out
                omega)
              subst heq
              have HAC := Lib.hid (account_any HI2.out (by omega) wr)
              unfold Bal.v at HAC
              rw [hre]
              clear HRND hms
              go_wp2_with fail
              refine (HAC.out).mono ?_
              rintro e w8 ⟨rfl, os8, hw8⟩
              have hb8 : Below wr.heap.size wr w8 := by rw [hw8]; exact ⟨rfl, rfl, rfl, by rw [Go.Sort.size_grow]; exact Nat.le_add_right _ _, fun i hi => Go.Sort.heap_grow_old _ _ hi⟩
              have hF8 := HF2.out.keep hb8
              have hbl := hF8.below
              have k0 := cell_of hF8.res 0 rfl
              have k1 := cell_of hF8.res 1 rfl
              have k2 := cell_of hF8.res 2 rfl
              have k3 := cell_of hF8.res 3 rfl
              have fz : ∀ i, w8.frozen? ⟨w.heap.size + 1, i, none⟩ = false := fun i => by have := hF8.res; simp [World.frozen?, this]
              have f0 := fz 0
              have f1 := fz 1
              have f2 := fz 2
              have f3 := fz 3
              clear fz hF8 hb8 hw8
              go_wp2
              refine bodyPost_ret (v := .tuple #[.agg #[.int .i64 B2.gr, .int .i64 B2.ta, .int .i64 B2.lo, .int .i64 (B2.fr + B2.ca)], .int .i64 0]) (by simp [results, Tryd.results10, go_sem, k0, k1, k2, k3]) rfl ⟨?_, .inr ⟨HV.out, Yu, HU.out, by rw [HEND.out]; rfl⟩⟩
              exact (((hbl.setCell (by simp) _).setCell (by simp) _).setCell (by simp) _).setCell (by simp) _
            · rw [hre] at HRND ⊢
              go_wp2_with fail
              all_goals first | exact ⟨HRND.out, hms⟩ | (exfalso; exact heq (Bal.ext' (by assumption) (by assumption) (by assumption) (by assumption) (by assumption)))
          · have d0 : (((N1 - m : Nat) : Int) == 0) = false := by simp; omega
            go_wp2
            exact ⟨HRND.out, hms⟩
    · have HEND := Lib.hid (show yearsE Y0 Ca Ex u (mvL n D G T) (Yu + 1 - Y0).toNat = yearsE Y0 Ca Ex u (mvL n D G T) i from by
        congr 1
        have := HK.out
        omega)
      obtain ⟨b0, b1, b2, b3, b4⟩ := HF4.out.bal.cells
      obtain ⟨B, hB⟩ : ∃ B, yearsE Y0 Ca Ex u (mvL n D G T) i = B := ⟨_, rfl⟩
      rw [hB] at HF4 HIN HEND b0 b1 b2 b3 b4
      clear hB
      have hi9 : (i : Int) ≤ 300 := by have := HK.out; omega
      have HAC := Lib.hid (account_any HIN.out (by omega) w4)
      unfold Bal.v at HAC
      go_wp2_with fail
      refine (HAC.out).mono ?_
      rintro e w8 ⟨rfl, os8, hw8⟩
      have hb8 : Below w4.heap.size w4 w8 := by rw [hw8]; exact ⟨rfl, rfl, rfl, by rw [Go.Sort.size_grow]; exact Nat.le_add_right _ _, fun i hi => Go.Sort.heap_grow_old _ _ hi⟩
      have hF8 := HF4.out.keep hb8
      have hbl := hF8.below
      have k0 := cell_of hF8.res 0 rfl
      have k1 := cell_of hF8.res 1 rfl
      have k2 := cell_of hF8.res 2 rfl
      have k3 := cell_of hF8.res 3 rfl
      have fz : ∀ i, w8.frozen? ⟨w.heap.size + 1, i, none⟩ = false := fun i => by have := hF8.res; simp [World.frozen?, this]
      have f0 := fz 0
      have f1 := fz 1
      have f2 := fz 2
      have f3 := fz 3
      clear fz hF8 hb8 hw8
      go_wp2
      refine bodyPost_ret (v := .tuple #[.agg #[.int .i64 B.gr, .int .i64 B.ta, .int .i64 B.lo, .int .i64 (B.fr + B.ca)], .int .i64 0]) (by simp [results, Tryd.results10, go_sem, k0, k1, k2, k3]) rfl ⟨?_, .inr ⟨HV.out, Yu, HU.out, by rw [HEND.out]; rfl⟩⟩
      exact (((hbl.setCell (by simp) _).setCell (by simp) _).setCell (by simp) _).setCell (by simp) _

theorem fold_any (Y0 Ca Ex u : Int) (p : Option Addr) (n cp : Nat) (D G T : Nat → Int) (w : World) (hn : n ≤ 900) (hcp : n ≤ cp) (hM : MvIn w p n D G T) (hL : Len w) :
    Calls Tryd.prog 10 #[.agg #[.int .i64 Y0, .int .i64 Ca, .int .i64 Ex], .int .i64 u, .slice p n cp] w (FoldPost Y0 Ca Ex u n D G T w) := by
  by_cases hv : checkV Y0 Ca Ex u n D G T = 0
  · exact fold_good Y0 Ca Ex u p n cp D G T w hn hcp hM hL hv
  · exact fold_bad Y0 Ca Ex u p n cp D G T w hn hM hL hv

end Go.Proofs.YtpejdbnphjheeaaDoor
