/-
  What is proved: the walk of the statement SheetAlone: the call returns true. Conditions: none beyond what came in.
-/
import Derived.Test.YtlfflnfodnegnaaSkJ
import Derived.Test.YtlfflnfodnegnaaFrameK
namespace Go.Proofs.Ytlfflnfodnegnaa
open Go Go.RowKit Go.Proofs
set_option linter.unusedVariables false

theorem run_min3 {P : Program} (w : World) (ts : Array TypeId) (t : TypeId) (x y z : Int) : (Builtin.min_ ts t #[.int .i64 x, .int .i64 y, .int .i64 z]).run P w = .ok (.int .i64 (min (min x y) z)) w := by
  have e : ∀ x y : Int, (if y < x then y else x) = min x y := fun x y => by
    rw [Int.min_def]
    split <;> split <;> omega
  simp [Builtin.min_, Builtin.min2, e]
/-- An entry of the week ahead of day d is among the first k. -/
def nearB (f : Nat → En) (d : Int) : Nat → Bool
  | 0 => false
  | k + 1 => nearB f d k || (decide ((f k).1 < d) && decide (d - 7 < (f k).1))
theorem nearB_no {f : Nat → En} {d : Int} : ∀ {k : Nat}, nearB f d k = false → ∀ i, i < k → ¬ ((f i).1 < d ∧ d - 7 < (f i).1)
  | 0, _, i, h => by omega
  | k + 1, h, i, hi => by
    unfold nearB at h
    rw [Bool.or_eq_false_iff] at h
    by_cases e : i = k
    · subst e
      rintro ⟨a, b⟩
      have := h.2
      rw [decide_eq_true a, decide_eq_true b] at this
      cases this
    · exact nearB_no h.1 i (by omega)

set_option maxHeartbeats 4000000 in
set_option maxRecDepth 100000 in
theorem walkSheetAlone (a : Option Addr) (n c : Nat) (f : Nat → En) (wi D W : Int) (w : World) (hA : EntsArg w a n c f) (w16 : (Lit.int .u16 wi).wf = true) (D64 : in64 D) (W64 : in64 W) :
    Calls Try.prog 8 #[.slice a n c, .int .u16 wi, .agg #[.int .i64 D, .int .i64 W]] w fun e w' => e = .returned (.bool true) ∧ Below w.heap.size w w' := by
  obtain ⟨hE, h64, -⟩ := hA
  have hwi : 0 ≤ wi ∧ wi ≤ 65535 := by simp [Lit.wf, IntKind.min, IntKind.max, IntKind.signed, IntKind.bits] at w16; omega
  obtain ⟨wi0, wi1⟩ := hwi
  obtain ⟨W1, hW1⟩ : ∃ W1, W1 = w.alloc (.cells #[.int .i64 D, .int .i64 W] 24) := ⟨_, rfl⟩
  have hz1 : W1.heap.size = w.heap.size + 1 := by rw [hW1]; simp
  have hb0 : Below w.heap.size w W1 := by rw [hW1]; exact (Below.refl w.heap.size w).alloc (Nat.le_refl _) _
  have c0 : W1.cell? ⟨w.heap.size, 0, none⟩ = some (.int .i64 D) := by rw [hW1, new_at]; rfl
  have c1 : W1.cell? ⟨w.heap.size, 1, none⟩ = some (.int .i64 W) := by rw [hW1, new_at]; rfl
  have HA := Lib.hid (awake_any W1)
  have HE := Lib.hid hE
  clear hE
  go_enter Try.func8, Try.ntmps8
  go_wp2_with fail
  rw [← hW1]
  clear hW1
  refine (HA.out).mono ?_
  rintro e w3 ⟨rfl, hb3⟩
  have y0 := stay hb3 c0
  have y1 := stay hb3 c1
  have hbw := hb0.trans (hb3.mono (by omega))
  have HE3 := Lib.hid (HE.out.below hbw)
  have k0 : w.heap.size < w3.heap.size := World.block_lt_of_cell? _ _ y0
  clear hb3 hb0 c0 c1 HA HE
  by_cases h300 : 300 < n
  · have hI : (300 : Int) < (n : Int) := by omega
    go_wp2
    go_ret
    exact ⟨rfl, hbw⟩
  · have hI : ¬ (300 : Int) < (n : Int) := by omega
    by_cases hn0 : n = 0
    · subst hn0
      go_wp2
      go_ret
      exact ⟨rfl, hbw⟩
    · have hn1 : ¬ (n : Int) = 0 := by omega
      have hn2 : ((n : Int) == 0) = false := by simpa using hn1
      obtain ⟨q, hq⟩ : ∃ q : Nat, (q : Int) = wi % n := ⟨(wi % n).toNat, by have := Int.emod_nonneg wi hn1; omega⟩
      have hqn : q < n := by have := Int.emod_lt_of_pos wi (show (0 : Int) < (n : Int) by omega); omega
      have hqI : (q : Int) < (n : Int) := by omega
      replace hq : wi % (n : Int) = (q : Int) := hq.symm
      rcases HE3.out with h | ⟨b, o, rfl, hc⟩
      · omega
      obtain ⟨xa, xb, xc⟩ := hc q hqn
      have kb : b < w3.heap.size := World.block_lt_of_cell? _ _ xa
      obtain ⟨d64, m64, n64⟩ := h64 q hqn
      obtain ⟨x, hx⟩ : ∃ x, x = f q := ⟨_, rfl⟩
      obtain ⟨T, hT⟩ : ∃ T, T = wrap64 (x.1 + 1) := ⟨_, rfl⟩
      obtain ⟨W4, hW4⟩ : ∃ W4, W4 = ((w3.alloc (.cells #[.int .i64 x.1, .int .i64 x.2.1, .int .i64 x.2.2] 46)).alloc (.cells #[.int .i64 x.1, .int .i64 T] 27)).alloc (.cells #[.int .i64 x.1, .int .i64 x.2.1, .int .i64 x.2.2] 46) := ⟨_, rfl⟩
      have hz4 : W4.heap.size = w3.heap.size + 1 + 1 + 1 := by rw [hW4]; simp
      have hb4 : Below w3.heap.size w3 W4 := by rw [hW4]; exact (((Below.refl w3.heap.size w3).alloc (Nat.le_refl _) _).alloc (by simp) _).alloc (by simp; omega) _
      have hE1 : EntsIn W4 (some ⟨w3.heap.size + 1 + 1, 0, none⟩) 1 (fun _ => x) := .inr ⟨w3.heap.size + 1 + 1, 0, rfl, fun j hj => by
        obtain rfl : j = 0 := by omega
        obtain ⟨Wb, hWb⟩ : ∃ Wb, Wb = (w3.alloc (.cells #[.int .i64 x.1, .int .i64 x.2.1, .int .i64 x.2.2] 46)).alloc (.cells #[.int .i64 x.1, .int .i64 T] 27) := ⟨_, rfl⟩
        have zb : Wb.heap.size = w3.heap.size + 1 + 1 := by rw [hWb]; simp
        rw [hW4, ← hWb, ← zb]
        exact ⟨new_at _ _ _ 0, new_at _ _ _ 1, new_at _ _ _ 2⟩⟩
      have hx4 : W4.cell? ⟨w3.heap.size, 0, none⟩ = some (.int .i64 x.1) ∧ W4.cell? ⟨w3.heap.size, 1, none⟩ = some (.int .i64 x.2.1) ∧ W4.cell? ⟨w3.heap.size, 2, none⟩ = some (.int .i64 x.2.2) ∧ W4.cell? ⟨w3.heap.size + 1, 0, none⟩ = some (.int .i64 x.1) ∧ W4.cell? ⟨w3.heap.size + 1, 1, none⟩ = some (.int .i64 T) := by
        obtain ⟨Wa, hWa⟩ : ∃ Wa, Wa = w3.alloc (.cells #[.int .i64 x.1, .int .i64 x.2.1, .int .i64 x.2.2] 46) := ⟨_, rfl⟩
        obtain ⟨Wb, hWb⟩ : ∃ Wb, Wb = Wa.alloc (.cells #[.int .i64 x.1, .int .i64 T] 27) := ⟨_, rfl⟩
        have za : Wa.heap.size = w3.heap.size + 1 := by rw [hWa]; simp
        have zb : Wb.heap.size = w3.heap.size + 1 + 1 := by rw [hWb, World.size_alloc, za]
        have e1 : ∀ j, W4.cell? ⟨w3.heap.size, j, none⟩ = Wa.cell? ⟨w3.heap.size, j, none⟩ := fun j => by
          rw [hW4, ← hWa, ← hWb, World.cell?_alloc_lt _ _ _ (by show w3.heap.size < _; omega), hWb, World.cell?_alloc_lt _ _ _ (by show w3.heap.size < _; omega)]
        have e2 : ∀ j, W4.cell? ⟨w3.heap.size + 1, j, none⟩ = Wb.cell? ⟨Wa.heap.size, j, none⟩ := fun j => by
          rw [hW4, ← hWa, ← hWb, World.cell?_alloc_lt _ _ _ (by show w3.heap.size + 1 < _; omega), za]
        refine ⟨?_, ?_, ?_, ?_, ?_⟩
        · rw [e1, hWa, new_at]; rfl
        · rw [e1, hWa, new_at]; rfl
        · rw [e1, hWa, new_at]; rfl
        · rw [e2, hWb, new_at]; rfl
        · rw [e2, hWb, new_at]; rfl
      have hEl := HE3.out.below hb4
      have HS1 := Lib.hid (Sum_any (fun _ => x) (some ⟨w3.heap.size + 1 + 1, 0, none⟩) 1 1 D W x.1 T W4 hE1)
      have HS2 := Lib.hid (fun V (hV : EntsIn V (some ⟨b, o, none⟩) n f) => Sum_any f (some ⟨b, o, none⟩) n c D W x.1 T V hV)
      have hbw4 := hbw.trans (hb4.mono hbw.size)
      have HEl := Lib.hid hEl
      have HC := Lib.hid (fun (h : chk f n D W = 0) => lone_right (q := q) h hqn)
      rw [← hx] at xa xb xc d64 m64 n64 HC
      have HX := Lib.hid hx
      have HH := Lib.hid hc
      have HT := Lib.hid hT
      have k1 : w.heap.size < w3.heap.size + 1 := by omega
      have k2 : w.heap.size < w3.heap.size + 1 + 1 := by omega
      rw [hT] at hW4
      clear hx hc hT h64 hEl HE3 hE1
      obtain ⟨C1, hC1⟩ : ∃ C, C = chk (fun _ => x) 1 D W := ⟨_, rfl⟩
      obtain ⟨R1, hR1⟩ : ∃ R, R = sumR (fun _ => x) 1 D W x.1 T := ⟨_, rfl⟩
      obtain ⟨C2, hC2⟩ : ∃ C, C = chk f n D W := ⟨_, rfl⟩
      obtain ⟨R2, hR2⟩ : ∃ R, R = sumR f n D W x.1 T := ⟨_, rfl⟩
      rw [← hC1, ← hR1] at HS1
      rw [← hC2, ← hR2] at HS2
      rw [← hC1, ← hC2] at HC
      obtain ⟨u0, u1, u2, u3, u4⟩ := hx4
      have HF := Lib.hid (And.intro hC1 (And.intro hR1 (And.intro hC2 hR2)))
      clear hC1 hR1 hC2 hR2
      obtain ⟨g, hg⟩ : ∃ g, g = w3.heap.size := ⟨_, rfl⟩
      go_wp2_with fail
      rw [← hW4]
      rw [← HT.out, ← hg]
      rw [← hg] at u0 u1 u2 u3 u4 hz4 k0 k1 k2 kb HS1
      clear hW4
      have HG := Lib.hid hg
      clear hg xa xb xc
      refine (HS1.out).mono ?_
      rintro e w5 ⟨rfl, hb5⟩
      have hz5 := hb5.size
      have sm : ∀ {p v}, W4.cell? p = some v → w5.cell? p = some v := fun h => stay hb5 h
      replace y0 := sm (stay hb4 y0)
      replace y1 := sm (stay hb4 y1)
      replace u0 := sm u0
      replace u1 := sm u1
      replace u2 := sm u2
      replace u3 := sm u3
      replace u4 := sm u4
      have l0 : w.heap.size < w5.heap.size := by omega
      have l1 : g < w5.heap.size := by omega
      have l2 : g + 1 < w5.heap.size := by omega
      obtain ⟨V, hV⟩ : ∃ V, V = w5.alloc (.cells #[.int .i64 R1.1, .int .i64 R1.2.1, .int .i64 R1.2.2] 30) := ⟨_, rfl⟩
      have hbV : Below w5.heap.size w5 V := by rw [hV]; exact (Below.refl _ _).alloc (Nat.le_refl _) _
      have X1 : HrBox V w5.heap.size R1 := by rw [hV]; exact HrBox.new w5 R1 _
      have HEV := Lib.hid ((HEl.out.below hb5).below hbV)
      have hbw5 := (hbw4.trans (hb5.mono hbw4.size))
      have hbwV := hbw5.trans (hbV.mono hbw5.size)
      replace HS2 := Lib.hid (HS2.out V HEV.out)
      obtain ⟨h, hh⟩ : ∃ h, h = w5.heap.size := ⟨_, rfl⟩
      clear sm hb4 hb5 hz5 HEl HS1 hbw4 hbw5
      go_wp2_with fail
      rw [← hV, ← hh]
      rw [← hh] at X1 l0 l1 l2
      have hzV : V.heap.size = h + 1 := by rw [hV, hh]; simp
      clear hV hh
      refine (HS2.out).mono ?_
      rintro e w6 ⟨rfl, hb6⟩
      have hz6 := hb6.size
      have sm : ∀ {p v}, w5.cell? p = some v → w6.cell? p = some v := fun h => stay hb6 (stay hbV h)
      replace y0 := sm y0
      replace y1 := sm y1
      replace u0 := sm u0
      replace u1 := sm u1
      replace u2 := sm u2
      obtain ⟨⟨p0, p1, p2⟩, -⟩ := X1.below hb6
      have HE6 := Lib.hid (HEV.out.below hb6)
      have HB6 := Lib.hid (hbwV.trans (hb6.mono hbwV.size))
      have q0 : w.heap.size < w6.heap.size := by omega
      have q1 : g < w6.heap.size := by omega
      have q2 : h < w6.heap.size := by omega
      clear sm hbV X1 HEV hbwV hb6 HS2 u3 u4 l0 l1 l2 hz6 hzV hz4
      by_cases h1 : C1 = 0
      · obtain ⟨e1, e2, e3, e4⟩ := HF.out
        have k1 := chk_ok.1 (e1.symm.trans h1)
        obtain ⟨-, hr1, hL⟩ := k1
        obtain ⟨hin, m0, m1, n0, n1⟩ : RtE x := hr1.1 0 (by omega)
        have hd := inB_iff.1 hin
        have hTx : T = x.1 + 1 := by
          rw [HT.out]
          unfold wrap64
          omega
        obtain ⟨r1, r2, r3⟩ := lone_plain hL m0
        have hR1 : R1 = hrs D W 0 x := by rw [e2, hTx]; unfold sumR; rw [if_pos (e1.symm.trans h1)]; exact sum_lone x
        rw [← hR1] at r1 r2 r3
        have HR2 : Hid (C2 = 0 → R2.1 ≤ R1.1 ∧ R2.1 + R2.2.1 = x.2.1 ∧ 0 ≤ R2.1 ∧ 0 ≤ R2.2.1 ∧ (nearB f x.1 n = false → R2 = R1)) := Lib.hid (fun hc => by
          obtain ⟨g1, g2, g3⟩ := chk_ok.1 (e3.symm.trans hc)
          have h2 : R2 = hrI D W f q := by
            rw [e4, hTx, HX.out]; unfold sumR; rw [if_pos (e3.symm.trans hc)]; exact sum_one g2 hqn
          have hA := left_pos g2 g3 (Nat.le_of_lt hqn) (mon (f q).1)
          have hm := lone_more (W := W) g3 (x := f q) (by rw [← HX.out]; exact m0) hA
          have hb := hrs_bd (W := W) (A := (stt D W f q (mon (f q).1)).1) g3.1 (e := f q) (by rw [← HX.out]; exact m0)
          refine ⟨by rw [h2, hR1, HX.out]; exact hm, by rw [h2]; rw [HX.out]; exact hb.2.2.1, by rw [h2]; exact hb.1, by rw [h2]; exact hb.2.1, fun hne => ?_⟩
          rw [h2, hR1, HX.out]
          exact lone_week g2 hqn (nearB_no (by rw [← HX.out]; exact hne)))
        have HMI : Hid (min (min x.2.1 D) W = R1.1) := Lib.hid r1.symm
        have HIN : Hid (C2 = 0 → ∀ k, k < n → inB (f k).1 = true) := Lib.hid (fun hc k hk => ((chk_ok.1 (e3.symm.trans hc)).2.1.1 k hk).1)
        have b1 : 0 ≤ R1.1 ∧ R1.1 ≤ 1440 := by obtain ⟨l1, l2, l3, l4⟩ := hL; omega
        obtain ⟨b10, b11⟩ := b1
        clear HF e1 e2 e3 e4 hr1 hin hR1 HT hTx r1 HC
        obtain ⟨P, O, N⟩ := R1
        obtain ⟨d, mi, ni⟩ := x
        simp only at *
        subst r2
        subst r3
        subst h1
        have hm3 := run_min3 (P := Try.prog) (w6.alloc (.cells #[.int .i64 R2.1, .int .i64 R2.2.1, .int .i64 R2.2.2] 30)) #[3, 3, 3] 3 mi D W
        rw [HMI.out] at hm3
        by_cases hc2 : C2 = 0
        · obtain ⟨f1, f2, f3, f4, f5⟩ := HR2.out hc2
          have HI := Lib.hid (HIN.out hc2)
          have HR3 := Lib.hid f5
          subst hc2
          clear HR2 HIN f5
          obtain ⟨V7, hV7⟩ : ∃ V, V = w6.alloc (.cells #[.int .i64 R2.1, .int .i64 R2.2.1, .int .i64 R2.2.2] 30) := ⟨_, rfl⟩
          have hb7 : Below w6.heap.size w6 V7 := by rw [hV7]; exact (Below.refl _ _).alloc (Nat.le_refl _) _
          have X2 : HrBox V7 w6.heap.size R2 := by rw [hV7]; exact HrBox.new w6 R2 _
          obtain ⟨h7, hh7⟩ : ∃ h, h = w6.heap.size := ⟨_, rfl⟩
          have HB7 := Lib.hid (HB6.out.trans (hb7.mono HB6.out.size))
          have HE7 := Lib.hid (HE6.out.below hb7)
          have HU := Lib.hid (And.intro (stay hb7 u0) (And.intro (stay hb7 u1) (And.intro (stay hb7 p0) (And.intro (stay hb7 p1) (stay hb7 p2)))))
          go_wp2
          rw [← hV7, ← hh7]
          rw [← hh7] at X2
          clear hV7 hh7 hb7 HB6 HE6 u0 u1 u2 p0 p1 p2 y0 y1 q0 q1 q2 hm3
          obtain ⟨⟨x0, x1, x2⟩, -⟩ := X2
          obtain ⟨u0, u1, p0, p1, p2⟩ := HU.out
          clear HU
          go_loopw [14, 13] (fun iv nv wr => ∃ k : Nat, k ≤ n ∧ iv = .int .i64 k ∧ nv = .bool (nearB f d k) ∧ Hid (∀ b : Nat, wr.heap[b]? = V7.heap[b]?) ∧ Hid (Below w.heap.size w wr)) (fun iv _ _ => n - (RowKit.intOf iv).toNat)
          case atStart => exact ⟨0, by omega, rfl, rfl, Lib.hid (fun _ => rfl), HB7⟩
          case round =>
            obtain ⟨k, hk, rfl, rfl, HHp, HBk⟩ := hrel
            have sm : ∀ {x j v}, V7.cell? ⟨x, j, none⟩ = some v → wr.cell? ⟨x, j, none⟩ = some v := fun {x j v} h => (World.cell?_of_block (w := V7) (a := ⟨x, j, none⟩) (HHp.out x)).trans h
            have a0 := sm u0
            by_cases hlt : k < n
            · have hlI : (k : Int) < (n : Int) := by omega
              have hk4 : (k : Int) < 300 := by omega
              have hnx : nearB f d (k + 1) = (nearB f d k || (decide ((f k).1 < d) && decide (d - 7 < (f k).1))) := rfl
              have HNX := Lib.hid hnx
              rcases HE7.out with h | ⟨b', o', hp, hc⟩
              · omega
              injection hp with hp
              injection hp with hp1 hp2
              subst hp1 hp2
              obtain ⟨xa, -, -⟩ := hc k hlt
              replace xa := sm xa
              have hik := inB_iff.1 (HI.out k hlt)
              generalize hnk : nearB f d k = nb at *
              generalize hfk : (f k).1 = dk at *
              clear hnk hfk hc sm hnx
              cases nb with
              | true =>
                have HV : Hid (nearB f d (k + 1) = true) := Lib.hid (by rw [HNX.out]; rfl)
                clear HNX
                go_wp2
                go_quiet (fail)
                go_wp2
                exact ⟨⟨k + 1, by omega, by go_num, by rw [HV.out], Lib.hid (fun b => HHp.out b), Lib.hid (below_drewN HBk.out _)⟩, by simp [RowKit.intOf]; omega⟩
              | false =>
                have hcs : (dk < d ∧ d - 7 < dk) ∨ (dk < d ∧ ¬ d - 7 < dk) ∨ ¬ dk < d := by omega
                rcases hcs with ⟨g1, g2⟩ | ⟨g1, g2⟩ | g1
                · have e1 : decide (dk < d) = true := decide_eq_true g1
                  have e2 : decide (d - 7 < dk) = true := decide_eq_true g2
                  have HV : Hid (nearB f d (k + 1) = true) := Lib.hid (by rw [HNX.out, e1, e2]; rfl)
                  clear HNX
                  go_wp2
                  go_quiet (fail)
                  go_wp2
                  exact ⟨⟨k + 1, by omega, by go_num, by rw [HV.out], Lib.hid (fun b => HHp.out b), Lib.hid (below_drewN HBk.out _)⟩, by simp [RowKit.intOf]; omega⟩
                · have e1 : decide (dk < d) = true := decide_eq_true g1
                  have e2 : decide (d - 7 < dk) = false := decide_eq_false g2
                  have HV : Hid (nearB f d (k + 1) = false) := Lib.hid (by rw [HNX.out, e1, e2]; rfl)
                  clear HNX
                  go_wp2
                  go_quiet (fail)
                  go_wp2
                  exact ⟨⟨k + 1, by omega, by go_num, by rw [HV.out], Lib.hid (fun b => HHp.out b), Lib.hid (below_drewN HBk.out _)⟩, by simp [RowKit.intOf]; omega⟩
                · have e1 : decide (dk < d) = false := decide_eq_false g1
                  have HV : Hid (nearB f d (k + 1) = false) := Lib.hid (by rw [HNX.out, e1]; rfl)
                  clear HNX
                  go_wp2
                  go_quiet (fail)
                  go_wp2
                  exact ⟨⟨k + 1, by omega, by go_num, by rw [HV.out], Lib.hid (fun b => HHp.out b), Lib.hid (below_drewN HBk.out _)⟩, by simp [RowKit.intOf]; omega⟩
            · obtain rfl : k = n := by omega
              have a1 := sm u1
              have a2 := sm p0
              have a3 := sm p1
              have a4 := sm p2
              have a5 := sm x0
              have a6 := sm x1
              have a7 := sm x2
              clear u0 u1 p0 p1 p2 x0 x1 x2 sm
              cases hnk : nearB f d k with
              | true =>
                clear hnk HR3
                obtain ⟨Q0, Q1, Q2⟩ := R2
                simp only at *
                go_wp2
                go_ret
                exact ⟨rfl, HBk.out⟩
              | false =>
                have hR := HR3.out hnk
                subst hR
                clear hnk HR3
                simp only at *
                go_wp2
                go_ret
                exact ⟨rfl, HBk.out⟩
        · clear HR2 HIN
          go_wp2
          go_ret
          exact ⟨rfl, HB6.out.alloc HB6.out.size _⟩
      · have h2 : ¬ C2 = 0 := fun h => h1 (HC.out h)
        have h3 : (C2 != 0) = true := by simpa using h2
        clear HF HC HT HX HH
        go_wp2
        go_ret
        exact ⟨rfl, HB6.out.alloc HB6.out.size _⟩

end Go.Proofs.Ytlfflnfodnegnaa
