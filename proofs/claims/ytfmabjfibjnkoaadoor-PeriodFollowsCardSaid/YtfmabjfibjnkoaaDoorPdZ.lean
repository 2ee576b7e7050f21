/-
  What is proved: the contract of the document's own Find of a calendar. Conditions: none.
-/
import Derived.Test.YtfmabjfibjnkoaaDoorPdY
import Derived.WalkMore
import Derived.Deep.LoopGhost
namespace Go.Proofs.YtfmabjfibjnkoaaDoor
open Go Go.RowKit Go.Proofs Go.Shelf
set_option linter.unusedVariables false

/-- No span of a year has the day. -/
def NoneIn (k f d y : Int) : Prop := ∀ a b, Ends k f y a b → ¬ (a ≤ d ∧ d < b)
theorem none_found {k f l d z : Int} (hc : chkC k f l = 0) (hd : inB d = true) (z1 : jan z ≤ d) (z2 : d < jan (z + 1)) (h0 : NoneIn k f d z) (h1 : z + 1 ≤ 2199 → NoneIn k f d (z + 1)) : FindR k f l d 0 0 0 0 0 0 6 := by
  obtain ⟨hk, -, -, -⟩ := chkC_zero hc
  obtain ⟨d1, d2⟩ := inB_iff.1 hd
  obtain ⟨a, b, hB, ha, hb⟩ := Blk.at (f := f) hk d1 d2
  refine .inr (.inr (.inl ⟨hc, hd, ⟨a, b, hB, ha, hb, ?_⟩, rfl, rfl, rfl, rfl, rfl, rfl, rfl⟩))
  cases hw : wholeB a b with
  | false => rfl
  | true =>
    exfalso
    have hw2 : inB a = true ∧ inB (b - 1) = true := by simpa [wholeB] using hw
    obtain ⟨u1, u2⟩ := inB_iff.1 hw2.1
    obtain ⟨u3, u4⟩ := inB_iff.1 hw2.2
    obtain ⟨y, y1, y2, hE⟩ := ends_year hB u1 (by omega)
    have hl := hB.len
    have e1 := hE.2.2.2.1
    have e2 := hE.2.2.2.2
    have j2 := jan_succ (z + 1)
    have lp2 := lp_bd (z + 1)
    rcases Int.lt_or_le (b - 1) (jan (z + 1)) with h3 | h3
    · obtain rfl : y = z := year_one (d := b - 1) (by omega) (by omega) (by omega) h3
      exact h0 a b hE ⟨ha, hb⟩
    · obtain rfl : y = z + 1 := year_one (d := b - 1) (by omega) (by omega) h3 (by omega)
      exact h1 y2 a b hE ⟨ha, hb⟩

set_option maxHeartbeats 4000000 in
set_option maxRecDepth 100000 in
theorem rFind_any (k f l d : Int) (w : World) :
    Calls Tryd.prog 19 #[.agg #[.int .i64 k, .int .i64 f, .int .i64 l], .int .i64 d] w (FindPost k f l d w) := by
  obtain ⟨W1, hW1⟩ : ∃ W1, W1 = (w.alloc (.cells #[.int .i64 k, .int .i64 f, .int .i64 l] 39)).alloc (.cells #[.int .i64 0, .int .i64 0, .int .i64 0, .int .i64 0, .int .i64 0, .int .i64 0] 48) := ⟨_, rfl⟩
  have hza : (w.alloc (.cells #[.int .i64 k, .int .i64 f, .int .i64 l] 39)).heap.size = w.heap.size + 1 := by simp
  have hb0 : Below w.heap.size w W1 := by rw [hW1]; exact ((Below.refl w.heap.size w).alloc (Nat.le_refl _) _).alloc (by simp) _
  have x0 : W1.cell? ⟨w.heap.size, 0, none⟩ = some (.int .i64 k) := by rw [hW1, World.cell?_alloc_lt _ _ _ (by rw [hza]; show w.heap.size < _; omega), World.cell?_alloc_new]; rfl
  have x1 : W1.cell? ⟨w.heap.size, 1, none⟩ = some (.int .i64 f) := by rw [hW1, World.cell?_alloc_lt _ _ _ (by rw [hza]; show w.heap.size < _; omega), World.cell?_alloc_new]; rfl
  have x2 : W1.cell? ⟨w.heap.size, 2, none⟩ = some (.int .i64 l) := by rw [hW1, World.cell?_alloc_lt _ _ _ (by rw [hza]; show w.heap.size < _; omega), World.cell?_alloc_new]; rfl
  have hR1 : Res6 W1 (w.heap.size + 1) := by
    rw [hW1, ← hza]
    refine ⟨fun j hj => ?_, fun j => by simp⟩
    rw [World.cell?_alloc_new]
    have e : j = 0 ∨ j = 1 ∨ j = 2 ∨ j = 3 ∨ j = 4 ∨ j = 5 := by omega
    rcases e with rfl | rfl | rfl | rfl | rfl | rfl <;> rfl
  have HC := rCheck_any k f l W1
  clear hza
  by_cases hc : chkC k f l = 0
  · rw [hc] at HC
    have HC := Lib.hid HC
    have HF := Lib.hid hc
    cases hin : inB d with
    | false =>
      have HP : Hid (FindPost k f l d w (.returned (.tuple #[.agg #[.int .i64 0, .int .i64 0, .int .i64 0, .int .i64 0, .int .i64 0, .int .i64 0], .int .i64 15])) w) := Lib.hid ⟨0, 0, 0, 0, 0, 0, 15, rfl, .inr (.inl ⟨HF.out, hin, rfl, rfl, rfl, rfl, rfl, rfl, rfl⟩), Below.refl _ _⟩
      have hor : d < -25567 ∨ 84006 ≤ d := by
        rcases Int.lt_or_le d (-25567) with h | h
        · exact .inl h
        · rcases Int.lt_or_le d 84006 with h2 | h2
          · rw [inB_yes h (by omega)] at hin; cases hin
          · exact .inr h2
      clear hin HF hc
      rcases Int.lt_or_le d (-25567) with h3 | h3
      · clear hor
        go_enter Tryd.func19, Tryd.ntmps19
        go_wp2_with fail
        rw [← hW1]
        clear hW1
        refine (HC.out).mono ?_
        rintro e w2 ⟨rfl, hb2⟩
        have hR2 := hR1.below hb2
        have hb3 := hb0.trans (hb2.mono hb0.size)
        clear x0 x1 x2 hR1 hb0 hb2
        obtain ⟨⟨a0, a1, a2, a3, a4, a5⟩, ⟨b0, b1, b2, b3, b4, b5⟩⟩ := hR2.all
        obtain ⟨y, i, n, a, b, p, e', h1, h2, -⟩ := HP.out
        obtain ⟨q0, q1, q2, q3, q4, q5⟩ := hR2.set (.int .i64 0) (.int .i64 0) (.int .i64 0) (.int .i64 0) (.int .i64 0) (.int .i64 0)
        have hbF := set6_below hb3 (show w.heap.size ≤ w.heap.size + 1 by omega) (.int .i64 0) (.int .i64 0) (.int .i64 0) (.int .i64 0) (.int .i64 0) (.int .i64 0)
        go_wp2
        exact bodyPost_ret (v := .tuple #[.agg #[.int .i64 0, .int .i64 0, .int .i64 0, .int .i64 0, .int .i64 0, .int .i64 0], .int .i64 15]) (by simp [results, Tryd.results19, go_sem, q0, q1, q2, q3, q4, q5]) rfl ⟨y, i, n, a, b, p, e', h1, h2, hbF⟩
      · have h4 : 84006 ≤ d := by omega
        clear hor
        go_enter Tryd.func19, Tryd.ntmps19
        go_wp2_with fail
        rw [← hW1]
        clear hW1
        refine (HC.out).mono ?_
        rintro e w2 ⟨rfl, hb2⟩
        have hR2 := hR1.below hb2
        have hb3 := hb0.trans (hb2.mono hb0.size)
        clear x0 x1 x2 hR1 hb0 hb2
        obtain ⟨⟨a0, a1, a2, a3, a4, a5⟩, ⟨b0, b1, b2, b3, b4, b5⟩⟩ := hR2.all
        obtain ⟨y, i, n, a, b, p, e', h1, h2, -⟩ := HP.out
        obtain ⟨q0, q1, q2, q3, q4, q5⟩ := hR2.set (.int .i64 0) (.int .i64 0) (.int .i64 0) (.int .i64 0) (.int .i64 0) (.int .i64 0)
        have hbF := set6_below hb3 (show w.heap.size ≤ w.heap.size + 1 by omega) (.int .i64 0) (.int .i64 0) (.int .i64 0) (.int .i64 0) (.int .i64 0) (.int .i64 0)
        go_wp2
        exact bodyPost_ret (v := .tuple #[.agg #[.int .i64 0, .int .i64 0, .int .i64 0, .int .i64 0, .int .i64 0, .int .i64 0], .int .i64 15]) (by simp [results, Tryd.results19, go_sem, q0, q1, q2, q3, q4, q5]) rfl ⟨y, i, n, a, b, p, e', h1, h2, hbF⟩
    | true =>
      have HI := Lib.hid hin
      obtain ⟨dd1, dd2⟩ := inB_iff.1 hin
      have dd3 : ¬ 84006 ≤ d := by omega
      have HBG : Hid (∀ z, 1900 ≤ z → z ≤ 2199 → ∀ W, Calls Tryd.prog 34 #[.int .i64 (z + 1), .int .i64 1] W fun e w' => e = .returned (.int .i64 (jan (z + 1))) ∧ Below W.heap.size W w') := Lib.hid (fun z h1 h2 W => by
        have := begin_any (z + 1) 1 (by omega) (by omega) (by omega) (by omega) W
        rwa [cum_one, Int.add_zero] at this)
      have HRY := Lib.hid (fun y W h1 h2 => rYear_any k f l y W hc h1 h2)
      clear hin hc
      go_enter Tryd.func19, Tryd.ntmps19
      go_wp2_with fail
      rw [← hW1]
      clear hW1
      refine (HC.out).mono ?_
      rintro e w2 ⟨rfl, hb2⟩
      have hR2 := hR1.below hb2
      have y0 := stay hb2 x0
      have y1 := stay hb2 x1
      have y2 := stay hb2 x2
      have hb3 := hb0.trans (hb2.mono hb0.size)
      clear x0 x1 x2 hR1 hb0 hb2 HC
      go_wp2
      go_loopw [7] (fun zv wr => ∃ z : Int, 1900 ≤ z ∧ z ≤ 2199 ∧ zv = .int .i64 z ∧ Hid (jan z ≤ d) ∧ Below w2.heap.size w2 wr) (fun zv _ => (2200 - RowKit.intOf zv).toNat)
      case atStart => exact ⟨1900, by omega, by omega, rfl, Lib.hid (by rw [jan_first]; exact dd1), Below.refl _ _⟩
      case round =>
        obtain ⟨z, z1, z2, rfl, HJ, hb⟩ := hrel
        by_cases hlt : jan (z + 1) ≤ d
        · have hz3 : z < 2199 := by
            have := jan_last
            rcases Int.lt_or_le z 2199 with h | h
            · exact h
            · have : z = 2199 := by omega
              subst this
              rw [show (2199 : Int) + 1 = 2200 from rfl, jan_last] at hlt
              omega
          have HJX := Lib.hid hlt
          have HB := Lib.hid (HBG.out z z1 z2)
          generalize hjj : jan (z + 1) = j at hlt HB
          clear hjj
          go_wp2_with fail
          refine (HB.out _).mono ?_
          rintro e w4 ⟨rfl, hb4⟩
          have hb5 := hb.trans (hb4.mono hb.size)
          go_wp2
          exact ⟨⟨z + 1, by omega, by omega, rfl, HJX, hb5⟩, by simp [RowKit.intOf]; omega⟩
        · have HJ2 : Hid (d < jan (z + 1)) := Lib.hid (by omega)
          have HB := Lib.hid (HBG.out z z1 z2)
          generalize hj : jan (z + 1) = j at hlt HB
          have hj2 := Lib.hid hj
          clear hj
          go_wp2_with fail
          refine (HB.out _).mono ?_
          rintro e w4 ⟨rfl, hb4⟩
          have hb5 := hb.trans (hb4.mono hb.size)
          clear HB hb hb4
          go_wp2
          go_loopw [8] (fun kv wr => ∃ (j : Nat) (u : Int), j ≤ 2 ∧ kv = .int .i64 u ∧ Hid (u = z + (j : Int)) ∧ 1900 ≤ u ∧ u ≤ 2201 ∧ Hid (∀ m : Nat, m < j → NoneIn k f d (z + (m : Int))) ∧ Below w2.heap.size w2 wr) (fun kv _ => (2202 - RowKit.intOf kv).toNat)
          case atStart => exact ⟨0, z, by omega, rfl, Lib.hid (by omega), by omega, by omega, Lib.hid (fun m hm => absurd hm (Nat.not_lt_zero _)), hb5⟩
          case round =>
            clear hb5 hlt
            obtain ⟨j, u, hjj, rfl, HU, hu1, hu2, HNO, hb⟩ := hrel
            have hR3 := hR2.below hb
            have hbw := hb3.trans (hb.mono hb3.size)
            by_cases hgo : u ≤ z + 1 ∧ u ≤ 2199
            · obtain ⟨g1, g2⟩ := hgo
              have x0 := stay hb y0
              have x1 := stay hb y1
              have x2 := stay hb y2
              have hj2 : j < 2 := by have := HU.out; omega
              go_wp2_with fail
              refine (HRY.out u _ hu1 g2).mono ?_
              rintro e w6 ⟨K, p, c, hK, rfl, hP, hb6⟩
              have HK := Lib.hid hK
              have HP := Lib.hid hP
              have hKl := hK.len
              have hR6 := hR3.below hb6
              have hb7 := hb.trans (hb6.mono hb.size)
              obtain ⟨n, hn⟩ : ∃ n, n = K.length := ⟨_, rfl⟩
              have HN := Lib.hid hn
              rw [← hn] at hKl HP ⊢
              clear hK hP x0 x1 x2 hb hb6 hn hR3 hbw
              go_wp2
              go_loopw [10] (fun iv wx => ∃ i : Nat, i ≤ n ∧ iv = .int .i64 i ∧ Hid (∀ m, m < i → ¬ ((K.getD m (0, 0)).1 ≤ d ∧ d < (K.getD m (0, 0)).2)) ∧ Below w2.heap.size w2 wx ∧ Below w6.heap.size w6 wx) (fun iv _ => n - (RowKit.intOf iv).toNat)
              case atStart => exact ⟨0, by omega, rfl, Lib.hid (fun m hm => absurd hm (Nat.not_lt_zero _)), hb7, Below.refl _ _⟩
              case round =>
                clear hb7
                obtain ⟨i, hi, rfl, HM, hb8, hb9⟩ := hrel
                by_cases hin : i < n
                · have hiI : (i : Int) < (n : Int) := by omega
                  have hiK : i < K.length := by have := HN.out; omega
                  rcases (HP.out.below hb9) with h | ⟨bb, o, rfl, hcc⟩
                  · rw [h] at hiK; simp at hiK
                  obtain ⟨u0, u1, u2, u3, u4, u5⟩ := hcc i hiK
                  obtain ⟨⟨A, B⟩, hab⟩ : ∃ s, K.getD i (0, 0) = s := ⟨_, rfl⟩
                  have HAB := Lib.hid hab
                  rw [hab] at u3 u4 u5
                  dsimp only at u3 u4 u5
                  clear hcc hab
                  by_cases hh : A ≤ d ∧ d < B
                  · obtain ⟨h1, h2⟩ := hh
                    have HFR : Hid (FindR k f l d u ((i + 1 : Nat) : Int) (n : Int) A B (payV B l) 0) := Lib.hid (.inr (.inr (.inr ⟨HF.out, HI.out, ⟨hu1, g2, K, HK.out, i, hiK, rfl, by rw [HN.out], HAB.out, rfl⟩, h1, h2, rfl⟩)))
                    have hR8 := hR6.below hb9
                    have hbx := hb3.trans (hb8.mono hb3.size)
                    have hA' : decide (A ≤ d) = true := decide_eq_true h1
                    have hB' : decide (d < B) = true := decide_eq_true h2
                    generalize payV B l = PV at *
                    generalize ((i + 1 : Nat) : Int) = I at *
                    clear hiK HP hb8 hb9 HM HNO hR2 hR6
                    obtain ⟨⟨a0, a1, a2, a3, a4, a5⟩, ⟨b0, b1, b2, b3, b4, b5⟩⟩ := hR8.all
                    obtain ⟨q0, q1, q2, q3, q4, q5⟩ := hR8.set (.int .i64 u) (.int .i64 I) (.int .i64 (n : Int)) (.int .i64 A) (.int .i64 B) (.int .i64 PV)
                    have hbF := set6_below hbx (show w.heap.size ≤ w.heap.size + 1 by omega) (.int .i64 u) (.int .i64 I) (.int .i64 (n : Int)) (.int .i64 A) (.int .i64 B) (.int .i64 PV)
                    go_wp2
                    exact bodyPost_ret (v := .tuple #[.agg #[.int .i64 u, .int .i64 I, .int .i64 (n : Int), .int .i64 A, .int .i64 B, .int .i64 PV], .int .i64 0]) (by simp [results, Tryd.results19, go_sem, q0, q1, q2, q3, q4, q5]) rfl ⟨u, _, _, A, B, PV, 0, rfl, HFR.out, hbF⟩
                  · have HM2 : Hid (∀ m, m < i + 1 → ¬ ((K.getD m (0, 0)).1 ≤ d ∧ d < (K.getD m (0, 0)).2)) := Lib.hid (fun m hm => by
                      rcases Nat.lt_or_ge m i with h1 | h1
                      · exact HM.out m h1
                      · rw [show m = i by omega, HAB.out]; exact hh)
                    clear HM hiK
                    rcases Int.lt_or_le d A with h1 | h1
                    · have hA' : decide (A ≤ d) = false := decide_eq_false (by omega)
                      clear hh
                      go_wp2
                      exact ⟨⟨i + 1, by omega, by go_num, HM2, hb8, hb9⟩, by simp [RowKit.intOf]; omega⟩
                    · have hA' : decide (A ≤ d) = true := decide_eq_true h1
                      have hB' : decide (d < B) = false := decide_eq_false (fun h => hh ⟨h1, h⟩)
                      have hB2 : ¬ d < B := fun h => hh ⟨h1, h⟩
                      clear hh
                      go_wp2
                      exact ⟨⟨i + 1, by omega, by go_num, HM2, hb8, hb9⟩, by simp [RowKit.intOf]; omega⟩
                · have hnone : Hid (∀ m : Nat, m < j + 1 → NoneIn k f d (z + (m : Int))) := Lib.hid (fun m hm => by
                    rcases Nat.lt_or_ge m j with h1 | h1
                    · exact HNO.out m h1
                    · have e : z + (m : Int) = u := by have := HU.out; omega
                      rw [e]
                      intro a b hE hab
                      obtain ⟨q, hq, hqe, -⟩ := year_idx HK.out hE
                      have := HM.out q (by have := HN.out; omega)
                      rw [hqe] at this
                      exact this hab)
                  clear HM HNO
                  go_wp2
                  exact ⟨⟨j + 1, u + 1, by omega, rfl, Lib.hid (by have := HU.out; omega), by omega, by omega, hnone, hb8⟩, by simp [RowKit.intOf]; omega⟩
            · have HP : Hid (FindR k f l d 0 0 0 0 0 0 6) := Lib.hid (none_found HF.out HI.out HJ.out HJ2.out (by
                have := HNO.out 0 (by have := HU.out; omega)
                simpa using this) (fun h => by
                have := HNO.out 1 (by have := HU.out; omega)
                simpa using this))
              clear HNO HBG HRY
              obtain ⟨⟨a0, a1, a2, a3, a4, a5⟩, ⟨b0, b1, b2, b3, b4, b5⟩⟩ := hR3.all
              rcases Int.lt_or_le (z + 1) u with h1 | h1
              · have h1' : ¬ u ≤ z + 1 := by omega
                clear hgo
                obtain ⟨q0, q1, q2, q3, q4, q5⟩ := hR3.set (.int .i64 0) (.int .i64 0) (.int .i64 0) (.int .i64 0) (.int .i64 0) (.int .i64 0)
                have hbF := set6_below hbw (show w.heap.size ≤ w.heap.size + 1 by omega) (.int .i64 0) (.int .i64 0) (.int .i64 0) (.int .i64 0) (.int .i64 0) (.int .i64 0)
                go_wp2
                exact bodyPost_ret (v := .tuple #[.agg #[.int .i64 0, .int .i64 0, .int .i64 0, .int .i64 0, .int .i64 0, .int .i64 0], .int .i64 6]) (by simp [results, Tryd.results19, go_sem, q0, q1, q2, q3, q4, q5]) rfl ⟨0, 0, 0, 0, 0, 0, 6, rfl, HP.out, hbF⟩
              · have h2 : ¬ u ≤ 2199 := by omega
                clear hgo
                obtain ⟨q0, q1, q2, q3, q4, q5⟩ := hR3.set (.int .i64 0) (.int .i64 0) (.int .i64 0) (.int .i64 0) (.int .i64 0) (.int .i64 0)
                have hbF := set6_below hbw (show w.heap.size ≤ w.heap.size + 1 by omega) (.int .i64 0) (.int .i64 0) (.int .i64 0) (.int .i64 0) (.int .i64 0) (.int .i64 0)
                go_wp2
                exact bodyPost_ret (v := .tuple #[.agg #[.int .i64 0, .int .i64 0, .int .i64 0, .int .i64 0, .int .i64 0, .int .i64 0], .int .i64 6]) (by simp [results, Tryd.results19, go_sem, q0, q1, q2, q3, q4, q5]) rfl ⟨0, 0, 0, 0, 0, 0, 6, rfl, HP.out, hbF⟩
  · have HP : Hid (FindPost k f l d w (.returned (.tuple #[.agg #[.int .i64 0, .int .i64 0, .int .i64 0, .int .i64 0, .int .i64 0, .int .i64 0], .int .i64 (chkC k f l)])) w) := Lib.hid ⟨0, 0, 0, 0, 0, 0, _, rfl, .inl ⟨hc, rfl, rfl, rfl, rfl, rfl, rfl, rfl⟩, Below.refl _ _⟩
    have e1 : (chkC k f l != 0) = true := by simpa using hc
    clear hc
    generalize chkC k f l = C at *
    have HC := Lib.hid HC
    go_enter Tryd.func19, Tryd.ntmps19
    go_wp2_with fail
    rw [← hW1]
    clear hW1
    refine (HC.out).mono ?_
    rintro e w2 ⟨rfl, hb2⟩
    have hR2 := hR1.below hb2
    have hb3 := hb0.trans (hb2.mono hb0.size)
    clear x0 x1 x2 hR1 hb0 hb2
    obtain ⟨⟨a0, a1, a2, a3, a4, a5⟩, ⟨b0, b1, b2, b3, b4, b5⟩⟩ := hR2.all
    obtain ⟨y, i, n, a, b, p, e', h1, h2, -⟩ := HP.out
    obtain ⟨q0, q1, q2, q3, q4, q5⟩ := hR2.set (.int .i64 0) (.int .i64 0) (.int .i64 0) (.int .i64 0) (.int .i64 0) (.int .i64 0)
    have hbF := set6_below hb3 (show w.heap.size ≤ w.heap.size + 1 by omega) (.int .i64 0) (.int .i64 0) (.int .i64 0) (.int .i64 0) (.int .i64 0) (.int .i64 0)
    go_wp2
    exact bodyPost_ret (v := .tuple #[.agg #[.int .i64 0, .int .i64 0, .int .i64 0, .int .i64 0, .int .i64 0, .int .i64 0], .int .i64 C]) (by simp [results, Tryd.results19, go_sem, q0, q1, q2, q3, q4, q5]) rfl ⟨y, i, n, a, b, p, e', h1, h2, hbF⟩

end Go.Proofs.YtfmabjfibjnkoaaDoor
