/-
  What is proved: SpanPieces returns true for all that it may be handed. Conditions: what came in lies in memory as the frame says.
-/
import Derived.Test.YtjpoldadkhmheaaSpW
import Derived.Test.YtjpoldadkhmheaaSpP
import Derived.Test.YtjpoldadkhmheaaFrameP
namespace Go.Proofs.Ytjpoldadkhmheaa
open Go Go.RowKit Go.Proofs

set_option linter.unusedVariables false
set_option maxHeartbeats 8000000 in
set_option maxRecDepth 100000 in
theorem walkSpanPieces (a b : Int) (p : Option Addr) (n cp : Nat) (zs : List Int) (w : World) (ha : in64 a) (hb : in64 b) (hr : IsRow .i64 w p n cp zs) :
    Calls Try.prog 8 #[.agg #[.int .i64 a, .int .i64 b], .slice p n cp] w fun e w' => e = .returned (.bool true) ∧ Below w.heap.size w w' := by
  obtain ⟨hl, hdi, h64, -⟩ := days_of hr
  clear hr
  generalize zs.take n = D at *
  subst hl
  obtain ⟨W0, hW0⟩ : ∃ W0, W0 = w.alloc (.cells #[.int .i64 a, .int .i64 b] 39) := ⟨_, rfl⟩
  have hb0 : Below w.heap.size w W0 := by rw [hW0]; exact (Below.refl _ _).alloc (Nat.le_refl _) _
  have x0 : W0.cell? ⟨w.heap.size, 0, none⟩ = some (.int .i64 a) := by rw [hW0, World.cell?_alloc_new]; rfl
  have x1 : W0.cell? ⟨w.heap.size, 1, none⟩ = some (.int .i64 b) := by rw [hW0, World.cell?_alloc_new]; rfl
  have HD := Lib.hid (hdi.below hb0 (Nat.le_refl _))
  have H64a := Lib.hid ha
  have H64b := Lib.hid hb
  clear hdi h64 ha hb
  by_cases hbig : 60 < D.length ∨ a < -1099511627776 ∨ 1099511627776 < b
  · have h2 : (60 : Int) < (D.length : Int) ∨ (¬ (60 : Int) < (D.length : Int) ∧ a < -1099511627776) ∨ (¬ (60 : Int) < (D.length : Int) ∧ ¬ a < -1099511627776 ∧ 1099511627776 < b) := by omega
    clear hbig
    rcases h2 with d1 | ⟨d1, d2⟩ | ⟨d1, d2, d3⟩
    all_goals
      go_enter Try.func8, Try.ntmps8
      go_wp2_with fail
      rw [← hW0]
      refine (awake_any _).mono ?_
      rintro e w1 ⟨rfl, hb1⟩
      have y0 := (hb1.cell (World.block_lt_of_cell? _ _ x0)).trans x0
      have y1 := (hb1.cell (World.block_lt_of_cell? _ _ x1)).trans x1
      clear hW0 x0 x1
      go_wp2
      go_ret
      exact ⟨rfl, hb0.trans (hb1.mono hb0.size)⟩
  have n0 : D.length ≤ 60 := by omega
  have a0 : -1099511627776 ≤ a := by omega
  have b0 : b ≤ 1099511627776 := by omega
  clear hbig
  have d1 : ¬ (60 : Int) < (D.length : Int) := by omega
  have d2 : ¬ a < -1099511627776 := by omega
  have d3 : ¬ 1099511627776 < b := by omega
  go_enter Try.func8, Try.ntmps8
  go_wp2_with fail
  rw [← hW0]
  clear hW0
  refine (awake_any _).mono ?_
  rintro e w1 ⟨rfl, hb1⟩
  have y0 := (hb1.cell (World.block_lt_of_cell? _ _ x0)).trans x0
  have y1 := (hb1.cell (World.block_lt_of_cell? _ _ x1)).trans x1
  have hb2 := hb0.trans (hb1.mono hb0.size)
  have HD1 := Lib.hid (HD.out.below hb1 (Nat.le_refl _))
  have HP := Lib.hid (Pieces_any a b p cp D w1 (by omega) HD1.out)
  clear x0 x1 hb0 hb1 HD
  go_wp2_with fail
  refine (HP.out).mono ?_
  rintro e w2 ⟨K, q, c, rfl, k1, k2, kl, ks, hb3⟩
  have z0 := (hb3.cell (World.block_lt_of_cell? _ _ y0)).trans y0
  have z1 := (hb3.cell (World.block_lt_of_cell? _ _ y1)).trans y1
  have hb4 := hb2.trans (hb3.mono hb2.size)
  have HD2 := Lib.hid (HD1.out.below hb3 (Nat.le_refl _))
  have HK := Lib.hid ks
  clear y0 y1 hb2 hb3 HD1 HP ks
  by_cases hab : b ≤ a
  · obtain rfl := k1 hab
    have e0 : cut62 (lenS (a, b)) = 0 := by simp [lenS, hab, cut62]
    have HLn := Lib.hid (Length_any a b w2 H64a.out H64b.out)
    rw [e0] at HLn
    clear k2 k1
    simp only [List.length_nil]
    go_wp2_with fail
    refine (HLn.out).mono ?_
    rintro e w3 ⟨rfl, hb5⟩
    go_wp2
    go_ret
    exact ⟨rfl, hb4.trans (hb5.mono hb4.size)⟩
  obtain ⟨r, hr, rfl⟩ := k2 (by omega)
  have hpl := pcs_len a r b
  have PF := Lib.hid (fun i hi => pieces_facts hr (show a < b by omega) (i := i) hi)
  have hds : dsum (pcs a r b) = b - a := pcs_dsum hr.1 (fun x hx => by
    rcases List.mem_cons.1 hx with rfl | hx
    · omega
    · exact ((hr.2 x).1 hx).2.2)
  have HDS := Lib.hid hds
  have HTL := Lib.hid (fun k => dsum_take_le (pcs a r b) k)
  have hk0 : 0 < (pcs a r b).length := by omega
  clear k1 k2 hr hds hpl
  generalize pcs a r b = K at *
  obtain ⟨f1, f2, -, -, -, f6, f7⟩ := PF.out 0 hk0
  obtain ⟨g1, -, -, -, g5, g6, g7⟩ := PF.out (K.length - 1) (by omega)
  have hk := HK.out
  rcases hk with h | ⟨bl, o, rfl, hc⟩
  · rw [h] at hk0; simp at hk0
  obtain ⟨u1, u2⟩ := hc 0 hk0
  obtain ⟨v1, v2⟩ := hc (K.length - 1) (by omega)
  rw [f2 rfl] at u1
  rw [g5 (by omega)] at v2
  have e1 : decide ((K.length : Int) = 0) = false := decide_eq_false (by omega)
  have e1' : ((K.length : Int) == 0) = false := beq_eq_false_iff_ne.2 (by omega)
  have e2 : (a == a) = true := by simp
  have e3 : (b == b) = true := by simp
  have i1 : (0 : Int) < (K.length : Int) := by omega
  have i2 : (K.length : Int) - 1 < (K.length : Int) := by omega
  have i3 : (0 : Int) ≤ (K.length : Int) - 1 := by omega
  have i4 : ((K.length : Int) - 1).toNat = K.length - 1 := by omega
  have l1 : (K.length : Int) ≤ 100000 := by omega
  simp only [Nat.zero_mul, Nat.add_zero] at u1
  clear hc u2 v1 f1 f6 f7 g1 g5 g6 g7 f2
  go_wp2
  go_quiet (fail)
  go_wp2
  clear e1 e1' e2 e3 i2 i3 i4 u1 v2
  have HLn : Hid (∀ W, Calls Try.prog 24 #[.agg #[.int .i64 a, .int .i64 b]] W fun e w' => e = .returned (.int .i64 (b - a)) ∧ Below W.heap.size W w') := Lib.hid (fun W => by
    have := Length_any a b W H64a.out H64b.out
    rwa [show lenS (a, b) = b - a from if_neg (show ¬ b ≤ a by omega), show cut62 (b - a) = b - a from if_pos (by omega)] at this)
  have hab' : a < b := by omega
  go_loopw [6, 7, 8, 9] (fun sv iv _ _ wr => ∃ (k : Nat) (x : Int), k ≤ K.length ∧ iv = .int .i64 k ∧ sv = .int .i64 x ∧ Hid (x = dsum (K.take k)) ∧ Below w2.heap.size w2 wr) (fun _ iv _ _ _ => K.length - (RowKit.intOf iv).toNat)
  case atStart => exact ⟨0, 0, by omega, rfl, rfl, Lib.hid rfl, Below.drewsN (Below.refl _ _) _⟩
  case round =>
    obtain ⟨k, sm, hk, rfl, rfl, HS, hbw⟩ := hrel
    by_cases hlt : k < K.length
    · obtain ⟨f1, f2, f3, f4, -, f6, f7⟩ := PF.out k hlt
      have hkk := HK.out
      rcases hkk with h | ⟨bl', o', hp', hc⟩
      · rw [h] at hlt; simp at hlt
      injection hp' with hp'
      injection hp' with hp1 hp2
      subst hp1; subst hp2
      obtain ⟨u1, u2⟩ := hc k hlt
      have ht := dsum_take K hlt
      have htl := HTL.out (k + 1)
      rw [ht, HDS.out, ← HS.out] at htl
      have hnn := dsum_nn (K.take k)
      rw [← HS.out] at hnn
      have HS2 : Hid (sm + lenS (K.getD k (0, 0)) = dsum (K.take (k + 1))) := Lib.hid (by rw [ht, HS.out])
      have hlen : lenS (K.getD k (0, 0)) = (K.getD k (0, 0)).2 - (K.getD k (0, 0)).1 := by unfold lenS; rw [if_neg (by omega)]
      have HCA : Hid (cutB (decide (k = 0)) D (K.getD k (0, 0)).1 D.length = true) := Lib.hid (cutB_all (by
        by_cases h0 : k = 0
        · exact .inl (decide_eq_true h0)
        · exact .inr (f3 (by omega)).1))
      have HIN := Lib.hid f4
      have HPV : Hid (0 < k → bl = bl ∧ w2.cell? ⟨bl, o + (k - 1) * 2 + 1, none⟩ = some (.int .i64 (K.getD k (0, 0)).1)) := Lib.hid (fun h0 => ⟨rfl, by
        rcases HK.out with h | ⟨b2, o2, hp2, hc2⟩
        · rw [h] at hlt; simp at hlt
        · injection hp2 with hp2
          injection hp2 with q1 q2
          subst q1; subst q2
          rw [← (f3 h0).2]
          exact (hc2 (k - 1) (by omega)).2⟩)
      have i5 : (k : Int) < (K.length : Int) := by omega
      have hin : in64 (K.getD k (0, 0)).1 ∧ in64 (K.getD k (0, 0)).2 := by unfold in64; omega
      clear hc f2 f3 f4 ht HS
      generalize K.getD k (0, 0) = s at *
      obtain ⟨x, y⟩ := s
      dsimp only at u1 u2 f1 f6 f7 hlen hin HCA HIN HPV
      rw [hlen] at HS2 htl
      have HL2 : Hid (∀ W, Calls Try.prog 24 #[.agg #[.int .i64 x, .int .i64 y]] W fun e w' => e = .returned (.int .i64 (y - x)) ∧ Below W.heap.size W w') := Lib.hid (fun W => by
        have := Length_any x y W hin.1 hin.2
        rwa [show cut62 (lenS (x, y)) = y - x by rw [hlen]; unfold cut62; rw [if_pos (by omega)]] at this)
      have hk0e : ((k : Int) == 0) = decide (k = 0) := by
        rw [Bool.eq_iff_iff]; simp
      obtain ⟨z, hz⟩ : ∃ z, z = decide (k = 0) := ⟨_, rfl⟩
      rw [← hz] at HCA hk0e
      have HZ := Lib.hid hz
      clear hz hlen
      go_wp2
      go_loopw [8, 9] (fun bv jv wr2 => ∃ (j : Nat) (bb : Bool), j ≤ D.length ∧ jv = .int .i64 j ∧ bv = .bool bb ∧ Hid (bb = cutB z D x j) ∧ Below w2.heap.size w2 wr2) (fun _ jv _ => D.length - (RowKit.intOf jv).toNat)
      case atStart => exact ⟨0, z, by omega, rfl, by simp, Lib.hid (cutB_zero _ _ _).symm, hbw⟩
      case round =>
        obtain ⟨j, bb, hj, rfl, rfl, HB, hbw2⟩ := hrel
        have a1 := (hbw2.cell (World.block_lt_of_cell? _ _ u1)).trans u1
        have a2 := (hbw2.cell (World.block_lt_of_cell? _ _ u2)).trans u2
        by_cases hjl : j < D.length
        · have hdd := HD2.out.below hbw2 (Nat.le_refl _)
          rcases hdd with h | ⟨bd, od, rfl, hcd⟩
          · rw [h] at hjl; simp at hjl
          have a3 := hcd j hjl
          have i6 : (j : Int) < (D.length : Int) := by omega
          have hno := HIN.out (D.getD j 0) (by rw [getD_at D 0 hjl]; exact List.getElem_mem _)
          have hcs := cutB_succ (z := z) (x := x) hjl
          rw [← HB.out] at hcs
          have HCS := Lib.hid hcs
          clear hcd hcs
          generalize D.getD j 0 = dd at *
          cases bb
          · have HN : Hid ((dd == x) = cutB z D x (j + 1)) := Lib.hid (by rw [HCS.out]; rfl)
            by_cases hd1 : x < dd
            · have e2 : decide (dd < y) = false := decide_eq_false (fun h => hno ⟨hd1, h⟩)
              have e1 : decide (x < dd) = true := decide_eq_true hd1
              go_wp2
              go_quiet (fail)
              go_wp2
              go_quiet (fail)
              go_wp2
              exact ⟨⟨j + 1, _, by omega, by go_num, rfl, HN, Below.drewsN hbw2 _⟩, by simp [RowKit.intOf]; omega⟩
            · have e1 : decide (x < dd) = false := decide_eq_false hd1
              go_wp2
              go_quiet (fail)
              go_wp2
              go_quiet (fail)
              go_wp2
              exact ⟨⟨j + 1, _, by omega, by go_num, rfl, HN, Below.drewsN hbw2 _⟩, by simp [RowKit.intOf]; omega⟩
          · have HN : Hid (true = cutB z D x (j + 1)) := Lib.hid (by rw [HCS.out]; rfl)
            by_cases hd1 : x < dd
            · have e2 : decide (dd < y) = false := decide_eq_false (fun h => hno ⟨hd1, h⟩)
              have e1 : decide (x < dd) = true := decide_eq_true hd1
              go_wp2
              go_quiet (fail)
              go_wp2
              go_quiet (fail)
              go_wp2
              exact ⟨⟨j + 1, _, by omega, by go_num, rfl, HN, Below.drewsN hbw2 _⟩, by simp [RowKit.intOf]; omega⟩
            · have e1 : decide (x < dd) = false := decide_eq_false hd1
              go_wp2
              go_quiet (fail)
              go_wp2
              go_quiet (fail)
              go_wp2
              exact ⟨⟨j + 1, _, by omega, by go_num, rfl, HN, Below.drewsN hbw2 _⟩, by simp [RowKit.intOf]; omega⟩
        · obtain rfl : j = D.length := by omega
          obtain rfl : bb = true := by rw [HB.out]; exact HCA.out
          have e1 : decide (y ≤ x) = false := decide_eq_false (by omega)
          clear HB HCA hj hjl hbw
          cases k with
          | zero =>
            have e2 : decide ((0 : Int) < ((0 : Nat) : Int)) = false := by decide
            simp only [Nat.zero_mul, Nat.add_zero] at a1 a2
            clear HPV
            go_wp2
            go_quiet (fail)
            go_wp2_with fail
            refine (HL2.out _).mono ?_
            rintro e w5 ⟨rfl, hb5⟩
            have hb6 := (Below.drewsN hbw2 _).trans (hb5.mono hbw2.size)
            go_wp2
            exact ⟨⟨1, _, by omega, by go_num, rfl, HS2, hb6⟩, by simp [RowKit.intOf]; omega⟩
          | succ k =>
            have e2 : decide ((0 : Int) < ((k + 1 : Nat) : Int)) = true := by simp
            have e3 : (x == x) = true := by simp
            obtain ⟨-, hpv⟩ := HPV.out (by omega)
            rw [Nat.add_sub_cancel] at hpv
            have a3 := (hbw2.cell (World.block_lt_of_cell? _ _ hpv)).trans hpv
            have i6 : ((k + 1 : Nat) : Int) - 1 = (k : Int) := by omega
            have i7 : (0 : Int) < ((k + 1 : Nat) : Int) := by omega
            clear HPV hpv
            go_wp2
            go_quiet (fail)
            go_wp2_with fail
            refine (HL2.out _).mono ?_
            rintro e w5 ⟨rfl, hb5⟩
            have hb6 := (Below.drewsN hbw2 _).trans (hb5.mono hbw2.size)
            go_wp2
            exact ⟨⟨k + 2, _, by omega, by go_num, rfl, HS2, hb6⟩, by simp [RowKit.intOf]; omega⟩
    · obtain rfl : k = K.length := by omega
      have hse : sm = b - a := by rw [HS.out, List.take_length, HDS.out]
      subst hse
      have z0' := (hbw.cell (World.block_lt_of_cell? _ _ z0)).trans z0
      have z1' := (hbw.cell (World.block_lt_of_cell? _ _ z1)).trans z1
      have e3 : (b - a == b - a) = true := by simp
      clear HS z0 z1
      go_wp2_with fail
      refine (HLn.out _).mono ?_
      rintro e w5 ⟨rfl, hb5⟩
      have hb6 := hbw.trans (hb5.mono hbw.size)
      go_wp2
      go_ret
      exact ⟨rfl, hb4.trans (hb6.mono hb4.size)⟩

end Go.Proofs.Ytjpoldadkhmheaa
