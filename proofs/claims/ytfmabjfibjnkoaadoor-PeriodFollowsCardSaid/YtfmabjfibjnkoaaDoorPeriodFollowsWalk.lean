/-
  What is proved: the walk of the statement PeriodFollows: the call returns true. Conditions: the tables read as their texts lay them.
-/
import Derived.Test.YtfmabjfibjnkoaaDoorPdX
import Derived.Deep.RegionHeld3
import Derived.Deep.DeepCutAuto
import Derived.BigQuiet
import Derived.LoopN
namespace Go.Proofs.YtfmabjfibjnkoaaDoor
open Go Go.RowKit Go.Proofs
set_option linter.unusedVariables false
set_option linter.unusedSimpArgs false

theorem neqPer (x0 x1 x2 x3 x4 x5 : Int) (W : World) : (binOp .neq 30 (.agg #[.int .i64 x0, .int .i64 x1, .int .i64 x2, .int .i64 x3, .int .i64 x4, .int .i64 x5]) (.agg #[.int .i64 x0, .int .i64 x1, .int .i64 x2, .int .i64 x3, .int .i64 x4, .int .i64 x5])).run Tryd.prog W = .ok (.bool false) W := by
  have hs : Tryd.prog.stoodInHeld 30 = false := by kernel_rfl
  have hs2 : Tryd.prog.stoodInHeld 28 = false := by kernel_rfl
  have hu1 := Tryd.underlying30
  have hu2 := Tryd.underlying3
  have hu3 := Tryd.underlying28
  have hu4 := Tryd.underlying22
  simp [go_sem, Program.fieldsOf, Op.eqFields, part, hu1, hu2, hu3, hu4, hs, hs2]

theorem tab3_tabs {W : World} (h : Tab3 W) : Tabs W := h.1

set_option maxHeartbeats 400000000 in
set_option maxRecDepth 100000 in
theorem walkPeriodFollows (k f l y : Int) (w : World) (wc : (-9223372036854775808 ≤ k ∧ k ≤ 9223372036854775807) ∧ (-9223372036854775808 ≤ f ∧ f ≤ 9223372036854775807) ∧ (-9223372036854775808 ≤ l ∧ l ≤ 9223372036854775807)) (w0 : (Lit.int .i64 y).wf = true) (hT : Tab3 w) :
    Calls Tryd.prog 7 #[.agg #[.int .i64 k, .int .i64 f, .int .i64 l], .int .i64 y] w fun e w' => e = .returned (.bool true) ∧ Below w.heap.size w w' := by
  have HY := Lib.hid (fun W hT => Year_any k f l y W hT)
  have HA := Lib.hid (fun W hT => awake_any W hT)
  obtain ⟨W1, hW1⟩ : ∃ W1, W1 = w.alloc (.cells #[.int .i64 k, .int .i64 f, .int .i64 l] 24) := ⟨_, rfl⟩
  have hb0 : Below w.heap.size w W1 := by rw [hW1]; exact (Below.refl w.heap.size w).alloc (Nat.le_refl _) _
  have C1 : CalAt W1 w.heap.size k f l := by rw [hW1]; exact ⟨by rw [World.cell?_alloc_new]; rfl, by rw [World.cell?_alloc_new]; rfl, by rw [World.cell?_alloc_new]; rfl⟩
  have T1 := Lib.hid (hT.stay hb0)
  have HC1 := Lib.hid C1
  obtain ⟨x0, x1, x2⟩ := C1
  clear hT w0 wc
  go_enter Tryd.func7, Tryd.ntmps7
  go_wp2_with fail
  rw [← hW1]
  clear hW1
  refine (HY.out _ T1.out.1).mono ?_
  rintro e w2 ⟨K, p, c, E, rfl, hE, hP, hb2⟩
  have T2 := Lib.hid (T1.out.stay hb2)
  have HC2 := Lib.hid (HC1.out.stay hb2)
  have hb3 := hb0.trans (hb2.mono hb0.size)
  clear x0 x1 x2 T1 HC1 hb0 hb2 HY
  have hE : (E ≠ 0) ∨ (E = 0 ∧ chkC k f l = 0 ∧ 1900 ≤ y ∧ y ≤ 2199 ∧ IsYear k f y K) := by
    rcases hE with ⟨h1, h2, -⟩ | ⟨h1, h2, h3, -⟩ | ⟨h1, h2, h3, h4, h5⟩
    · left; rw [h2]; exact h1
    · left; omega
    · exact .inr ⟨h4, h1, h2, h3, h5⟩
  rcases hE with hE | ⟨rfl, hc, y1, y2, hK⟩
  · have e1 : (E != 0) = true := by simpa using hE
    go_wp2_with fail
    refine (HA.out _ T2.out).mono ?_
    rintro e w3 ⟨rfl, hb4⟩
    go_wp2
    go_ret
    exact ⟨rfl, hb3.trans (hb4.mono hb3.size)⟩
  have hlen := fol_len hc y1 y2 hK
  have HK := Lib.hid hK
  have HCK := Lib.hid hc
  obtain ⟨I0, hI0⟩ := fol_ix (l := l) hc y1 y2 hK
  have HI0 := Lib.hid hI0
  obtain ⟨n, hn⟩ : ∃ n, n = K.length := ⟨_, rfl⟩
  have HN := Lib.hid hn
  obtain ⟨B, o, rfl, hcell⟩ : ∃ B o, p = some ⟨B, o, none⟩ ∧ ∀ i, i < K.length → w2.cell? ⟨B, o + i * 6, none⟩ = some (.int .i64 y) ∧ w2.cell? ⟨B, o + i * 6 + 1, none⟩ = some (.int .i64 ((i : Int) + 1)) ∧ w2.cell? ⟨B, o + i * 6 + 2, none⟩ = some (.int .i64 K.length) ∧
    w2.cell? ⟨B, o + i * 6 + 3, none⟩ = some (.int .i64 (K.getD i (0, 0)).1) ∧ w2.cell? ⟨B, o + i * 6 + 4, none⟩ = some (.int .i64 (K.getD i (0, 0)).2) ∧ w2.cell? ⟨B, o + i * 6 + 5, none⟩ = some (.int .i64 (payV (K.getD i (0, 0)).2 l)) := by
    rcases hP with h | ⟨b, o, rfl, hc⟩
    · rw [h] at hlen; simp at hlen
    · exact ⟨b, o, rfl, fun i hi => by simpa using hc i hi⟩
  rw [← hn] at hcell hlen
  rw [← hn]
  have HCE := Lib.hid hcell
  clear hP hcell hK hc hI0 hn hE
  go_wp2
  go_loopw [26] (fun iv wr => ∃ i : Nat, i ≤ n ∧ iv = .int .i64 i ∧ Below w2.heap.size w2 wr) (fun iv _ => n - (RowKit.intOf iv).toNat)
  case atStart => exact ⟨0, by omega, rfl, Below.refl _ _⟩
  case round =>
    obtain ⟨i, hi, rfl, hb⟩ := hrel
    by_cases hlt : i < n
    · have i1 : (i : Int) < (n : Int) := by omega
      obtain ⟨⟨a, b⟩, e⟩ : ∃ s, K.getD i (0, 0) = s := ⟨_, rfl⟩
      have ce := HCE.out i hlt
      rw [e] at ce
      obtain ⟨c0, c1, c2, c3, c4, c5⟩ := ce
      replace c0 := stay hb c0
      replace c1 := stay hb c1
      replace c2 := stay hb c2
      replace c3 := stay hb c3
      replace c4 := stay hb c4
      replace c5 := stay hb c5
      dsimp only at c3 c4 c5
      have HE := Lib.hid e
      clear e
      obtain ⟨W3, hW3⟩ : ∃ W3, W3 = wr.alloc (.cells #[.int .i64 y, .int .i64 ((i : Int) + 1), .int .i64 (n : Int), .int .i64 a, .int .i64 b, .int .i64 (payV b l)] 30) := ⟨_, rfl⟩
      have hN3 : PerAt W3 wr.heap.size y ((i : Int) + 1) (n : Int) a b (payV b l) := by rw [hW3]; exact new6 _ _ _ _ _ _ _ _
      have hbr : Below wr.heap.size wr W3 := by rw [hW3]; exact (Below.refl _ _).alloc (Nat.le_refl _) _
      have hb5 := hb.trans (hbr.mono hb.size)
      have hb6 := hb3.trans (hb5.mono hb3.size)
      have hlW : w2.heap.size ≤ W3.heap.size := hb5.size
      have T3 := Lib.hid (T2.out.stay hb5)
      have KC := Lib.hid (fun w' (h : Below W3.heap.size W3 w') => (HC2.out.stay hb5).stay h)
      have KP := Lib.hid (fun w' (h : Below W3.heap.size W3 w') => hN3.stay h)
      have KK := Lib.hid (fun w' (h : Below W3.heap.size W3 w') j (hj : j < n) => (show _ from by
        obtain ⟨d0, d1, d2, d3, d4, d5⟩ := HCE.out j hj
        exact ⟨stay h (stay hb5 d0), stay h (stay hb5 d1), stay h (stay hb5 d2), stay h (stay hb5 d3), stay h (stay hb5 d4), stay h (stay hb5 d5)⟩ : w'.cell? ⟨B, o + j * 6, none⟩ = some (.int .i64 y) ∧ w'.cell? ⟨B, o + j * 6 + 1, none⟩ = some (.int .i64 ((j : Int) + 1)) ∧ w'.cell? ⟨B, o + j * 6 + 2, none⟩ = some (.int .i64 n) ∧
    w'.cell? ⟨B, o + j * 6 + 3, none⟩ = some (.int .i64 (K.getD j (0, 0)).1) ∧ w'.cell? ⟨B, o + j * 6 + 4, none⟩ = some (.int .i64 (K.getD j (0, 0)).2) ∧ w'.cell? ⟨B, o + j * 6 + 5, none⟩ = some (.int .i64 (payV (K.getD j (0, 0)).2 l))))
      have hed := fol_ends HK.out (by rw [← HN.out]; exact hlt) HE.out
      have hL := hed.1.len
      obtain ⟨q1, q2, q3, q4⟩ := hed.2
      go_upto_region 7 with fail
      rw [← hW3]
      clear hW3 hbr hN3 c0 c1 c2 c3 c4 c5 q3 q4 hed
      go_cut [26, 74] (fun v26 v74 wx => v26 = .int .i64 (i : Int) ∧ v74 = .bool false ∧ Below W3.heap.size W3 wx)
      case first => as_aux_lemma =>
        obtain ⟨p0, p1, p2, p3, p4, p5⟩ := KP.out W3 (Below.refl _ _)
        have g1 : (y != y) = false := by simp
        have g2 : IntKind.i64.wrap ((i : Int) + 1) = (i : Int) + 1 := IntWalk.i64_in _ (by omega)
        have g3 : ((i : Int) + 1 != (i : Int) + 1) = false := by simp
        have g4 : ((n : Int) != (n : Int)) = false := by simp
        have g5 : decide (b ≤ a) = false := by simp; omega
        by_cases h0 : i = 0
        · have g6 : decide (0 < (i : Int)) = false := by simp; omega
          go_quiet (fail)
          go_wp2
          go_meet
          case rel => exact ⟨rfl, rfl, below_drewN (Below.refl _ _) _⟩
        · have g6 : decide (0 < (i : Int)) = true := by simp; omega
          have g6' : decide (0 < i) = true := by simp; omega
          have g6'' : 0 < i := by omega
          obtain ⟨j, hj⟩ : ∃ j, j + 1 = i := ⟨i - 1, by omega⟩
          have g7 : IntKind.i64.wrap ((i : Int) - 1) = (j : Int) := by rw [IntWalk.i64_in _ (by omega)]; omega
          obtain ⟨⟨a', b'⟩, e'⟩ : ∃ s, K.getD j (0, 0) = s := ⟨_, rfl⟩
          have e2 := HE.out
          rw [← hj] at e2
          have hto := fol_touch HCK.out HK.out (i := j) (by rw [← HN.out]; omega) e' e2
          clear e2
          have hto := hto.symm
          subst hto
          have ce := KK.out W3 (Below.refl _ _) j (by omega)
          rw [e'] at ce
          obtain ⟨d0, d1, d2, d3, d4, d5⟩ := ce
          dsimp only at d3 d4 d5
          have g8 : (j : Int) < (n : Int) := by omega
          have g9 : (a != a) = false := by simp
          clear hj e'
          go_quiet (fail)
          go_wp2
          go_meet
          case rel => exact ⟨rfl, rfl, below_drewN (Below.refl _ _) _⟩
      case rest => as_aux_lemma =>
      obtain ⟨rfl, rfl, hB⟩ := hcut
      obtain ⟨x0, x1, x2⟩ := KC.out _ hB
      obtain ⟨p0, p1, p2, p3, p4, p5⟩ := KP.out _ hB
      go_wp2_with fail
      obtain ⟨W4, hW4⟩ : ∃ W4, W4 = wc.alloc (.cells #[.int .i64 a, .int .i64 (a + 1), .int .i64 (b - 1)] 22) := ⟨_, rfl⟩
      have s0 : W4.cell? ⟨wc.heap.size, 0, none⟩ = some (.int .i64 a) := by rw [hW4, World.cell?_alloc_new]; rfl
      have s1 : W4.cell? ⟨wc.heap.size, 1, none⟩ = some (.int .i64 (a + 1)) := by rw [hW4, World.cell?_alloc_new]; rfl
      have s2 : W4.cell? ⟨wc.heap.size, 2, none⟩ = some (.int .i64 (b - 1)) := by rw [hW4, World.cell?_alloc_new]; rfl
      have hb7 : Below wc.heap.size wc W4 := by rw [hW4]; exact (Below.refl _ _).alloc (Nat.le_refl _) _
      have hB4 := hB.trans (hb7.mono hB.size)
      rw [← hW4]
      clear hW4 x0 x1 x2 p0 p1 p2 p3 p4 p5
      obtain ⟨g, hg⟩ : ∃ g, g = wc.heap.size := ⟨_, rfl⟩
      rw [← hg] at s0 s1 s2 ⊢
      have S4 := Lib.hid (fun w' (h : Below W4.heap.size W4 w') => And.intro (stay h s0) (And.intro (stay h s1) (stay h s2)))
      clear hg hb7 hB
      have HOw := Lib.hid (fol_own (l := l) HCK.out y1 y2 HK.out (by rw [← HN.out]; exact hlt) HE.out)
      rw [← HN.out] at HOw
      obtain ⟨I, hI⟩ : ∃ I : Int, I = (i : Int) + 1 := ⟨_, rfl⟩
      refine wp_loop_rounds 4 ?_
      rw [rounds_succ]
      obtain ⟨x0, x1, x2⟩ := KC.out _ hB4
      have hfa : ∀ (d : Int), a ≤ d → d < b → FindR k f l d y ((i : Int) + 1) (n : Int) a b (payV b l) 0 := fun d h1 h2 => OwnP.found HCK.out HOw.out.2 h1 h2
      have HFA := Lib.hid hfa
      have hq : ∀ W, (binOp .neq 30 (.agg #[.int .i64 y, .int .i64 ((i : Int) + 1), .int .i64 (n : Int), .int .i64 a, .int .i64 b, .int .i64 (payV b l)]) (.agg #[.int .i64 y, .int .i64 ((i : Int) + 1), .int .i64 (n : Int), .int .i64 a, .int .i64 b, .int .i64 (payV b l)])).run Tryd.prog W = .ok (.bool false) W := fun W => neqPer _ _ _ _ _ _ W
      clear hfa
      go_wp2_with fail
      refine (Find_any k f l _ _ (T3.out.stay hB4).1).mono ?_
      rintro e u1 ⟨z0, z1, z2, z3, z4, z5, E, rfl, hR, hu1⟩
      obtain ⟨rfl, rfl, rfl, rfl, rfl, rfl, rfl⟩ := (HFA.out _ (by omega) (by omega)).one hR
      clear hR
      have hv1 := hu1.trans (((Below.refl u1.heap.size u1).alloc (Nat.le_refl _) (.cells #[.int .i64 y, .int .i64 ((i : Int) + 1), .int .i64 (n : Int), .int .i64 a, .int .i64 b, .int .i64 (payV b l)] 30)).mono hu1.size)
      have N1 := new6 u1 (.int .i64 y) (.int .i64 ((i : Int) + 1)) (.int .i64 (n : Int)) (.int .i64 a) (.int .i64 b) (.int .i64 (payV b l)) 30
      have HV1 := Lib.hid hv1
      obtain ⟨p0, p1, p2, p3, p4, p5⟩ := KP.out _ (hB4.trans (hv1.mono hB4.size))
      obtain ⟨n0, n1, n2, n3, n4, n5⟩ := N1
      obtain ⟨x0, x1, x2⟩ := KC.out _ (hB4.trans (hv1.mono hB4.size))
      obtain ⟨s0, s1, s2⟩ := S4.out _ hv1
      clear hu1 hv1
      go_wp2_with fail
      rw [rounds_succ]
      clear p0 p1 p2 p3 p4 p5 n0 n1 n2 n3 n4 n5 x0 x1 x2 s0 s1 s2
      generalize (u1.alloc (.cells #[.int .i64 y, .int .i64 ((i : Int) + 1), .int .i64 (n : Int), .int .i64 a, .int .i64 b, .int .i64 (payV b l)] 30)) = V1 at HV1 ⊢
      obtain ⟨x0, x1, x2⟩ := KC.out _ (hB4.trans (HV1.out.mono hB4.size))
      obtain ⟨s0, s1, s2⟩ := S4.out _ HV1.out
      go_wp2_with fail
      refine (Find_any k f l _ _ (T3.out.stay (hB4.trans (HV1.out.mono hB4.size))).1).mono ?_
      rintro e u2 ⟨z0, z1, z2, z3, z4, z5, E, rfl, hR, hu2⟩
      obtain ⟨rfl, rfl, rfl, rfl, rfl, rfl, rfl⟩ := (HFA.out _ (by omega) (by omega)).one hR
      clear hR
      have hv2 := HV1.out.trans ((hu2.trans (((Below.refl u2.heap.size u2).alloc (Nat.le_refl _) (.cells #[.int .i64 y, .int .i64 ((i : Int) + 1), .int .i64 (n : Int), .int .i64 a, .int .i64 b, .int .i64 (payV b l)] 30)).mono hu2.size)).mono HV1.out.size)
      have N1 := new6 u2 (.int .i64 y) (.int .i64 ((i : Int) + 1)) (.int .i64 (n : Int)) (.int .i64 a) (.int .i64 b) (.int .i64 (payV b l)) 30
      have HV2 := Lib.hid hv2
      obtain ⟨p0, p1, p2, p3, p4, p5⟩ := KP.out _ (hB4.trans (hv2.mono hB4.size))
      obtain ⟨n0, n1, n2, n3, n4, n5⟩ := N1
      clear hu2 hv2 x0 x1 x2 s0 s1 s2
      obtain ⟨x0, x1, x2⟩ := KC.out _ (hB4.trans (HV2.out.mono hB4.size))
      obtain ⟨s0, s1, s2⟩ := S4.out _ HV2.out
      go_wp2_with fail
      rw [rounds_succ]
      clear p0 p1 p2 p3 p4 p5 n0 n1 n2 n3 n4 n5 x0 x1 x2 s0 s1 s2
      generalize (u2.alloc (.cells #[.int .i64 y, .int .i64 ((i : Int) + 1), .int .i64 (n : Int), .int .i64 a, .int .i64 b, .int .i64 (payV b l)] 30)) = V2 at HV2 ⊢
      obtain ⟨x0, x1, x2⟩ := KC.out _ (hB4.trans (HV2.out.mono hB4.size))
      obtain ⟨s0, s1, s2⟩ := S4.out _ HV2.out
      go_wp2_with fail
      refine (Find_any k f l _ _ (T3.out.stay (hB4.trans (HV2.out.mono hB4.size))).1).mono ?_
      rintro e u3 ⟨z0, z1, z2, z3, z4, z5, E, rfl, hR, hu3⟩
      obtain ⟨rfl, rfl, rfl, rfl, rfl, rfl, rfl⟩ := (HFA.out _ (by omega) (by omega)).one hR
      clear hR
      have hv3 := HV2.out.trans ((hu3.trans (((Below.refl u3.heap.size u3).alloc (Nat.le_refl _) (.cells #[.int .i64 y, .int .i64 ((i : Int) + 1), .int .i64 (n : Int), .int .i64 a, .int .i64 b, .int .i64 (payV b l)] 30)).mono hu3.size)).mono HV2.out.size)
      have N1 := new6 u3 (.int .i64 y) (.int .i64 ((i : Int) + 1)) (.int .i64 (n : Int)) (.int .i64 a) (.int .i64 b) (.int .i64 (payV b l)) 30
      have HV3 := Lib.hid hv3
      obtain ⟨p0, p1, p2, p3, p4, p5⟩ := KP.out _ (hB4.trans (hv3.mono hB4.size))
      obtain ⟨n0, n1, n2, n3, n4, n5⟩ := N1
      clear hu3 hv3 x0 x1 x2 s0 s1 s2
      obtain ⟨x0, x1, x2⟩ := KC.out _ (hB4.trans (HV3.out.mono hB4.size))
      obtain ⟨s0, s1, s2⟩ := S4.out _ HV3.out
      go_wp2_with fail
      rw [rounds_succ]
      clear p0 p1 p2 p3 p4 p5 n0 n1 n2 n3 n4 n5 x0 x1 x2 s0 s1 s2
      generalize (u3.alloc (.cells #[.int .i64 y, .int .i64 ((i : Int) + 1), .int .i64 (n : Int), .int .i64 a, .int .i64 b, .int .i64 (payV b l)] 30)) = V3 at HV3 ⊢
      have hB8 := hB4.trans (HV3.out.mono hB4.size)
      obtain ⟨x0, x1, x2⟩ := KC.out _ hB8
      obtain ⟨p0, p1, p2, p3, p4, p5⟩ := KP.out _ hB8
      clear HFA HV1 HV2 HV3 S4 hB4 hq
      have HNX := Lib.hid (fun W hT => Next_any k f l y ((i : Int) + 1) (n : Int) a b (payV b l) W hT)
      go_wp2_with fail
      refine (HNX.out _ (T3.out.stay hB8).1).mono ?_
      rintro e u4 ⟨z0, z1, z2, z3, z4, z5, E, rfl, hR, hu4⟩
      have hNR : NextR k f l y ((i + 1 : Nat) : Int) (K.length : Int) a b (payV b l) z0 z1 z2 z3 z4 z5 E := by rw [← HN.out, show ((i + 1 : Nat) : Int) = (i : Int) + 1 by omega]; exact hR
      have HCase : (i + 1 < n ∧ E = 0 ∧ z0 = y ∧ z1 = ((i + 1 : Nat) : Int) + 1 ∧ z2 = (n : Int) ∧ (z3, z4) = K.getD (i + 1) (0, 0) ∧ z5 = payV z4 l) ∨ (i + 1 = n ∧ y < 2199 ∧ E = 0 ∧ z0 = y + 1 ∧ z1 = 1 ∧ z3 = b ∧ Owned k f l (y + 1) 1 z2 b z4 z5) ∨ (i + 1 = n ∧ y = 2199) := by
        by_cases h1 : i + 1 < n
        · obtain ⟨⟨a2, b2⟩, e2⟩ : ∃ s, K.getD (i + 1) (0, 0) = s := ⟨_, rfl⟩
          obtain ⟨r0, r1, r2, r3, r4, r5, r6⟩ := fol_next HCK.out y1 y2 HK.out (by rw [← HN.out]; exact h1) HE.out e2 hNR
          refine .inl ⟨h1, r0, r1, by rw [r2]; omega, by rw [r3, HN.out], by rw [r4, r5, e2], by rw [r6, r5]⟩
        · by_cases h2 : y < 2199
          · obtain ⟨r0, r1, r2, r3, r4⟩ := fol_last HCK.out y1 h2 HK.out (by rw [← HN.out]; omega) HE.out hNR
            subst r3
            exact .inr (.inl ⟨by omega, h2, r0, r1, r2, rfl, r4⟩)
          · exact .inr (.inr ⟨by omega, by omega⟩)
      have HCS := Lib.hid HCase
      clear hR hNR HCase HNX
      obtain ⟨V5, hV5⟩ : ∃ V5, V5 = u4.alloc (.cells #[.int .i64 z0, .int .i64 z1, .int .i64 z2, .int .i64 z3, .int .i64 z4, .int .i64 z5] 30) := ⟨_, rfl⟩
      have N5 : PerAt V5 u4.heap.size z0 z1 z2 z3 z4 z5 := by rw [hV5]; exact new6 _ _ _ _ _ _ _ _
      have hb9 : Below u4.heap.size u4 V5 := by rw [hV5]; exact (Below.refl _ _).alloc (Nat.le_refl _) _
      have hB9 := hB8.trans ((hu4.trans (hb9.mono hu4.size)).mono hB8.size)
      have KN := Lib.hid (fun w' (h : Below V5.heap.size V5 w') => N5.stay h)
      obtain ⟨gn, hgn⟩ : ∃ gn, gn = u4.heap.size := ⟨_, rfl⟩
      rw [← hgn] at KN
      go_upto_region 17 with fail
      rw [← hV5, ← hgn]
      clear hV5 N5 hb9 hu4 hB8 x0 x1 x2 p0 p1 p2 p3 p4 p5 hgn
      obtain ⟨m, hm⟩ : ∃ m, m = i + 1 := ⟨_, rfl⟩
      have g2 : IntKind.i64.wrap ((i : Int) + 1) = (m : Int) := by rw [IntWalk.i64_in _ (by omega)]; omega
      go_cut [26, 129] (fun v26 v129 wx => v26 = .int .i64 (i : Int) ∧ v129 = .bool false ∧ Below V5.heap.size V5 wx)
      case first => as_aux_lemma =>
        obtain ⟨n0, n1, n2, n3, n4, n5⟩ := KN.out V5 (Below.refl _ _)
        rcases HCS.out with ⟨h1, rfl, rfl, rfl, rfl, h6, rfl⟩ | h1
        · have ce := KK.out V5 hB9 m (by omega)
          rw [hm, ← h6, ← hm] at ce
          rw [← hm] at n1
          obtain ⟨d0, d1, d2, d3, d4, d5⟩ := ce
          dsimp only at d3 d4 d5
          have g3 : decide ((m : Int) < (n : Int)) = true := by simp; omega
          have g3' : decide (m < n) = true := by simp; omega
          have g3'' : (m : Int) < (n : Int) := by omega
          have hq2 : ∀ W, (binOp .neq 30 (.agg #[.int .i64 z0, .int .i64 ((m : Int) + 1), .int .i64 (n : Int), .int .i64 z3, .int .i64 z4, .int .i64 (payV z4 l)]) (.agg #[.int .i64 z0, .int .i64 ((m : Int) + 1), .int .i64 (n : Int), .int .i64 z3, .int .i64 z4, .int .i64 (payV z4 l)])).run Tryd.prog W = .ok (.bool false) W := fun W => neqPer _ _ _ _ _ _ W
          clear h6 hm
          go_quiet (fail)
          go_wp2
          go_meet
          case rel => exact ⟨rfl, rfl, below_drewN (Below.refl _ _) _⟩
        · have h2 : m = n := by omega
          have g3 : decide ((m : Int) < (n : Int)) = false := by simp; omega
          have g3' : decide (m < n) = false := by simp; omega
          clear h1 hm h2
          go_quiet (fail)
          go_wp2
          go_meet
          case rel => exact ⟨rfl, rfl, below_drewN (Below.refl _ _) _⟩
      case rest => as_aux_lemma =>
      obtain ⟨rfl, rfl, hBx⟩ := hcut
      generalize wc = w5 at hBx ⊢
      have hBw := hB9.trans (hBx.mono hB9.size)
      have T6 := Lib.hid ((T3.out.stay hB9).stay hBx)
      have KC := Lib.hid (fun w' (h : Below w5.heap.size w5 w') => KC.out w' (hBw.trans (h.mono hBw.size)))
      have KP := Lib.hid (fun w' (h : Below w5.heap.size w5 w') => KP.out w' (hBw.trans (h.mono hBw.size)))
      have KN := Lib.hid (fun w' (h : Below w5.heap.size w5 w') => KN.out w' (hBx.trans (h.mono hBx.size)))
      have KK := Lib.hid (fun w' (h : Below w5.heap.size w5 w') => KK.out w' (hBw.trans (h.mono hBw.size)))
      obtain ⟨⟨a0, b0⟩, e0⟩ : ∃ s, K.getD 0 (0, 0) = s := ⟨_, rfl⟩
      have HE0 := Lib.hid e0
      have C0 := Lib.hid (fol_cnt0 (l := l) HCK.out y1 y2 HK.out (i := i) (by rw [← HN.out]; exact hlt) e0 HE.out)
      have C1 := Lib.hid (fol_cntp (l := l) HCK.out y1 y2 HK.out (i := i) (by rw [← HN.out]; exact hlt) HE.out)
      rw [← HN.out] at C0 C1
      have hB10 := hb6.trans (hBw.mono hb6.size)
      have hBz := hBw
      clear e0 hBx hBw hB9 T3 hb6
      go_upto_region 19 with fail
      go_cut [26, 177] (fun v26 v177 wx => v26 = .int .i64 (i : Int) ∧ v177 = .bool false ∧ Below w5.heap.size w5 wx)
      case first => as_aux_lemma =>
        rcases HCS.out with ⟨h1, -⟩ | ⟨h1, h2, rfl, rfl, rfl, rfl, h6⟩ | ⟨h1, h2⟩
        · have g3 : ((m : Int) == (n : Int)) = false := by simp; omega
          have g3' : (m == n) = false := by simp; omega
          clear h1 hm
          go_wp2
          go_meet
          case rel => exact ⟨rfl, rfl, Below.refl _ _⟩
        · have h3 : m = n := by omega
          obtain ⟨CA, CB⟩ := fol_cntn (l := l) HCK.out y1 h2 HK.out (i := i) (by rw [← HN.out]; exact h1) HE.out h6
          rw [← HN.out] at CA CB
          have HCA := Lib.hid CA
          have HCB := Lib.hid CB
          have g3 : ((m : Int) == (n : Int)) = true := by simp; omega
          have g3' : (m == n) = true := by simp; omega
          have g4 : decide (y < 2199) = true := by simp; omega
          have g5 : IntKind.i64.wrap (y + 1) = y + 1 := IntWalk.i64_in _ (by omega)
          have g6 : (y + 1 != y + 1) = false := by simp
          have g7 : (z3 != z3) = false := by simp
          obtain ⟨n0, n1, n2, n3, n4, n5⟩ := KN.out w5 (Below.refl _ _)
          obtain ⟨p0, p1, p2, p3, p4, p5⟩ := KP.out w5 (Below.refl _ _)
          obtain ⟨x0, x1, x2⟩ := KC.out w5 (Below.refl _ _)
          clear h1 hm h3 CA CB h6
          go_wp2_with fail
          refine (HCA.out _ T6.out.1).mono ?_
          rintro e t1 ⟨rfl, ht1⟩
          obtain ⟨n0, n1, n2, n3, n4, n5⟩ := KN.out _ ht1
          obtain ⟨p0, p1, p2, p3, p4, p5⟩ := KP.out _ ht1
          obtain ⟨x0, x1, x2⟩ := KC.out _ ht1
          go_wp2_with fail
          refine (HCB.out _ (T6.out.stay ht1).1).mono ?_
          rintro e t2 ⟨rfl, ht2⟩
          go_wp2
          go_meet
          case rel => exact ⟨rfl, rfl, ht1.trans (ht2.mono ht1.size)⟩
        · have h3 : m = n := by omega
          have g3 : ((m : Int) == (n : Int)) = true := by simp; omega
          have g3' : (m == n) = true := by simp; omega
          have g4 : decide (y < 2199) = false := by simp; omega
          clear h1 hm h3
          go_wp2
          go_meet
          case rel => exact ⟨rfl, rfl, Below.refl _ _⟩
      case rest => as_aux_lemma =>
      obtain ⟨rfl, rfl, hBy⟩ := hcut
      have T7 := Lib.hid (T6.out.stay hBy)
      have KS := Lib.hid (fun w' (h : Below wc.heap.size wc w') => (show _ from by
        have h' := hBy.trans (h.mono hBy.size)
        obtain ⟨x0, x1, x2⟩ := KC.out w' h'
        obtain ⟨p0, p1, p2, p3, p4, p5⟩ := KP.out w' h'
        have ce := KK.out w' h' 0 (by omega)
        rw [HE0.out] at ce
        obtain ⟨d0, d1, d2, d3, d4, d5⟩ := ce
        exact ⟨⟨x0, x1, x2, p0, p1, p2, p3, p4, p5, by simpa using d0, by simpa using d1, by simpa using d2, by simpa using d3, by simpa using d4, by simpa using d5⟩, h⟩ : (w'.cell? ⟨w.heap.size, 0, none⟩ = some (.int .i64 k) ∧ w'.cell? ⟨w.heap.size, 1, none⟩ = some (.int .i64 f) ∧ w'.cell? ⟨w.heap.size, 2, none⟩ = some (.int .i64 l) ∧ w'.cell? ⟨wr.heap.size, 0, none⟩ = some (.int .i64 y) ∧ w'.cell? ⟨wr.heap.size, 1, none⟩ = some (.int .i64 ((i : Int) + 1)) ∧ w'.cell? ⟨wr.heap.size, 2, none⟩ = some (.int .i64 (n : Int)) ∧ w'.cell? ⟨wr.heap.size, 3, none⟩ = some (.int .i64 a) ∧ w'.cell? ⟨wr.heap.size, 4, none⟩ = some (.int .i64 b) ∧ w'.cell? ⟨wr.heap.size, 5, none⟩ = some (.int .i64 (payV b l)) ∧ w'.cell? ⟨B, o, none⟩ = some (.int .i64 y) ∧ w'.cell? ⟨B, o + 1, none⟩ = some (.int .i64 1) ∧ w'.cell? ⟨B, o + 2, none⟩ = some (.int .i64 (n : Int)) ∧ w'.cell? ⟨B, o + 3, none⟩ = some (.int .i64 a0) ∧ w'.cell? ⟨B, o + 4, none⟩ = some (.int .i64 b0) ∧ w'.cell? ⟨B, o + 5, none⟩ = some (.int .i64 (payV b0 l))) ∧ Below wc.heap.size wc w'))
      have hBr : Below w2.heap.size w2 wc := hb5.trans ((hBz.trans (hBy.mono hBz.size)).mono hb5.size)
      have g1 : ((i : Int) != (i : Int)) = false := by simp
      have g0 : (0 : Int) < (n : Int) := by omega
      have g0' : 0 < n := by omega
      have hm1 : m ≤ i + 1 := by omega
      have hm2 : i + 1 ≤ m := by omega
      clear hm hBy KC KP KN KK T6 HE0 HCS
      have tok1 : True := trivial
      by_cases hl : l = 0
      · as_aux_lemma =>
        have g2 : (l == 0) = true := by simp [hl]
        have g3 : IntKind.i64.wrap (b - 1) = b - 1 := IntWalk.i64_in _ (by omega)
        have g4 : (payV b l != b - 1) = false := by unfold payV; rw [bne_eq_false_iff_eq]; omega
        clear hl
        go_upto_region 21 with fail
        go_region_held3 (fun w' => (w'.cell? ⟨w.heap.size, 0, none⟩ = some (.int .i64 k) ∧ w'.cell? ⟨w.heap.size, 1, none⟩ = some (.int .i64 f) ∧ w'.cell? ⟨w.heap.size, 2, none⟩ = some (.int .i64 l) ∧ w'.cell? ⟨wr.heap.size, 0, none⟩ = some (.int .i64 y) ∧ w'.cell? ⟨wr.heap.size, 1, none⟩ = some (.int .i64 ((i : Int) + 1)) ∧ w'.cell? ⟨wr.heap.size, 2, none⟩ = some (.int .i64 (n : Int)) ∧ w'.cell? ⟨wr.heap.size, 3, none⟩ = some (.int .i64 a) ∧ w'.cell? ⟨wr.heap.size, 4, none⟩ = some (.int .i64 b) ∧ w'.cell? ⟨wr.heap.size, 5, none⟩ = some (.int .i64 (payV b l)) ∧ w'.cell? ⟨B, o, none⟩ = some (.int .i64 y) ∧ w'.cell? ⟨B, o + 1, none⟩ = some (.int .i64 1) ∧ w'.cell? ⟨B, o + 2, none⟩ = some (.int .i64 (n : Int)) ∧ w'.cell? ⟨B, o + 3, none⟩ = some (.int .i64 a0) ∧ w'.cell? ⟨B, o + 4, none⟩ = some (.int .i64 b0) ∧ w'.cell? ⟨B, o + 5, none⟩ = some (.int .i64 (payV b0 l))) ∧ Below wc.heap.size wc w') (first | with_reducible exact KS.out _ kb_drew | with_reducible exact KS.out _ (Below.refl _ _) | with_reducible exact KS.out _ (by assumption)) (first | (go_at_call 11; have _t := tok1; refine (C0.out _ (tab3_tabs (T7.out.stay (And.right (by assumption))))).mono ?_; rintro e wa ⟨rfl, hba⟩; have hka : Below wc.heap.size wc wa := kb_call hba (by assumption); clear tok1 _t) | (go_at_call 11; refine (C1.out _ (tab3_tabs (T7.out.stay (And.right (by assumption))))).mono ?_; rintro e wb ⟨rfl, hbb⟩; have hkb : Below wc.heap.size wc wb := kb_call hbb (by assumption)))
        all_goals
          go_wp2
          exact ⟨⟨m, by omega, rfl, hBr.trans (hkb.mono hBr.size)⟩, by simp [RowKit.intOf]; omega⟩
      · as_aux_lemma =>
        have g2 : (l == 0) = false := by simp [hl]
        clear hl
        go_upto_region 21 with fail
        go_wp2
        refine wp_region_held_drew (S := (fun w' => (w'.cell? ⟨w.heap.size, 0, none⟩ = some (.int .i64 k) ∧ w'.cell? ⟨w.heap.size, 1, none⟩ = some (.int .i64 f) ∧ w'.cell? ⟨w.heap.size, 2, none⟩ = some (.int .i64 l) ∧ w'.cell? ⟨wr.heap.size, 0, none⟩ = some (.int .i64 y) ∧ w'.cell? ⟨wr.heap.size, 1, none⟩ = some (.int .i64 ((i : Int) + 1)) ∧ w'.cell? ⟨wr.heap.size, 2, none⟩ = some (.int .i64 (n : Int)) ∧ w'.cell? ⟨wr.heap.size, 3, none⟩ = some (.int .i64 a) ∧ w'.cell? ⟨wr.heap.size, 4, none⟩ = some (.int .i64 b) ∧ w'.cell? ⟨wr.heap.size, 5, none⟩ = some (.int .i64 (payV b l)) ∧ w'.cell? ⟨B, o, none⟩ = some (.int .i64 y) ∧ w'.cell? ⟨B, o + 1, none⟩ = some (.int .i64 1) ∧ w'.cell? ⟨B, o + 2, none⟩ = some (.int .i64 (n : Int)) ∧ w'.cell? ⟨B, o + 3, none⟩ = some (.int .i64 a0) ∧ w'.cell? ⟨B, o + 4, none⟩ = some (.int .i64 b0) ∧ w'.cell? ⟨B, o + 5, none⟩ = some (.int .i64 (payV b0 l))) ∧ Below wc.heap.size wc w')) (by kernel_rfl) (KS.out _ ((Below.refl _ _).drew)) (fun hHeld => ?_)
        refine wpAnyH_take (i := 0) (oi := { dst := some 178, op := Op.load 24 (Operand.tmp 2), type := 24, pos := "law.go:90", after := #[], guard := none }) (v := ?_) rfl (by kernel_rfl) (by kernel_rfl) (by kernel_rfl) (fun _ _ _ h => h) (Or.inl ⟨by kernel_rfl, ?_⟩) (by assumption) ?_
        rotate_left 1
        · intro w hSw
          (try dsimp only at hSw)
          go_simp
          all_goals (with_reducible rfl)
        try (conv => arg 8; simp only [Act.put, List.setIfInBounds_toArray, List.set_cons_zero, List.set_cons_succ])
        refine wpAnyH_take (i := 1) (oi := { dst := some 179, op := Op.move (Operand.tmp 5), type := 26, pos := "law.go:90", after := #[], guard := none }) (v := ?_) rfl (by kernel_rfl) (by kernel_rfl) (by kernel_rfl) (fun _ _ _ h => h) (Or.inl ⟨by kernel_rfl, ?_⟩) (by assumption) ?_
        rotate_left 1
        · intro w hSw
          (try dsimp only at hSw)
          go_simp
          all_goals (with_reducible rfl)
        try (conv => arg 8; simp only [Act.put, List.setIfInBounds_toArray, List.set_cons_zero, List.set_cons_succ])
        refine wpAnyH_take (i := 2) (oi := { dst := some 180, op := Op.indexAddr 26 (Operand.tmp 179) (Operand.const (Value.int IntKind.i64 0)), type := 0, pos := "law.go:90", after := #[{ on := 1, ground := Ground.data }], guard := none }) (v := ?_) rfl (by kernel_rfl) (by kernel_rfl) (by kernel_rfl) (fun _ _ _ h => h) (Or.inl ⟨by kernel_rfl, ?_⟩) (by assumption) ?_
        rotate_left 1
        · intro w hSw
          (try dsimp only at hSw)
          go_simp
          all_goals (with_reducible rfl)
        try (conv => arg 8; simp only [Act.put, List.setIfInBounds_toArray, List.set_cons_zero, List.set_cons_succ])
        refine wpAnyH_take (i := 3) (oi := { dst := some 181, op := Op.load 30 (Operand.tmp 180), type := 30, pos := "law.go:90", after := #[{ on := 2, ground := Ground.data }], guard := none }) (v := ?_) rfl (by kernel_rfl) (by kernel_rfl) (by kernel_rfl) (fun _ _ _ h => h) (Or.inl ⟨by kernel_rfl, ?_⟩) (by assumption) ?_
        rotate_left 1
        · intro w hSw
          (try dsimp only at hSw)
          go_simp
          all_goals (with_reducible rfl)
        try (conv => arg 8; simp only [Act.put, List.setIfInBounds_toArray, List.set_cons_zero, List.set_cons_succ])
        refine wpAnyH_take (i := 4) (oi := { dst := some 182, op := Op.load 30 (Operand.tmp 8), type := 30, pos := "law.go:90", after := #[], guard := none }) (v := ?_) rfl (by kernel_rfl) (by kernel_rfl) (by kernel_rfl) (fun _ _ _ h => h) (Or.inl ⟨by kernel_rfl, ?_⟩) (by assumption) ?_
        rotate_left 1
        · intro w hSw
          (try dsimp only at hSw)
          go_simp
          all_goals (with_reducible rfl)
        try (conv => arg 8; simp only [Act.put, List.setIfInBounds_toArray, List.set_cons_zero, List.set_cons_succ])
        refine wpAnyH_take (i := 6) (oi := { dst := some 184, op := Op.move (Operand.tmp 7), type := 3, pos := "law.go:90", after := #[], guard := none }) (v := ?_) rfl (by kernel_rfl) (by kernel_rfl) (by kernel_rfl) (fun _ _ _ h => h) (Or.inl ⟨by kernel_rfl, ?_⟩) (by assumption) ?_
        rotate_left 1
        · intro w hSw
          (try dsimp only at hSw)
          go_simp
          all_goals (with_reducible rfl)
        try (conv => arg 8; simp only [Act.put, List.setIfInBounds_toArray, List.set_cons_zero, List.set_cons_succ])
        refine wpAnyH_ready (rs := [5]) (by kernel_rfl) (by simp) ?_
        refine AllReadyH.cons (o := { dst := some 183, op := Op.call { callee := Callee.value (Operand.func 11), args := #[Operand.tmp 178, Operand.tmp 181, Operand.tmp 182], argTypes := #[24, 30, 30] }, type := 3, pos := "law.go:90", after := #[{ on := 0, ground := Ground.data }, { on := 3, ground := Ground.data }, { on := 4, ground := Ground.data }], guard := none }) rfl (fun K hK => ?_) AllReadyH.nil
        go_simp
        go_at_call 11
        refine (C0.out _ (tab3_tabs (T7.out.stay hHeld.2))).mono ?_
        rintro e wa ⟨rfl, hbwa⟩
        have hka : Below wc.heap.size wc wa := kb_call hbwa hHeld
        clear hHeld
        refine hK.out _ _ (KS.out _ hka) (fun hHeld => ?_)
        clear hK K
        try (conv => arg 8; simp only [Act.put, List.setIfInBounds_toArray, List.set_cons_zero, List.set_cons_succ])
        refine wpAnyH_take (i := 7) (oi := { dst := some 185, op := Op.binOp BinOp.neq 3 (Operand.tmp 183) (Operand.tmp 184) 3, type := 4, pos := "law.go:90", after := #[{ on := 5, ground := Ground.data }, { on := 6, ground := Ground.data }], guard := none }) (v := ?_) rfl (by kernel_rfl) (by kernel_rfl) (by kernel_rfl) (fun _ _ _ h => h) (Or.inl ⟨by kernel_rfl, ?_⟩) (by assumption) ?_
        rotate_left 1
        · intro w hSw
          (try dsimp only at hSw)
          go_simp
          all_goals (with_reducible rfl)
        try (conv => arg 8; simp only [Act.put, List.setIfInBounds_toArray, List.set_cons_zero, List.set_cons_succ])
        refine wpAnyH_take (i := 8) (oi := { dst := some 186, op := Op.move (Operand.tmp 185), type := 4, pos := "law.go:90", after := #[{ on := 7, ground := Ground.data }, { on := 5, ground := Ground.chain }], guard := none }) (v := ?_) rfl (by kernel_rfl) (by kernel_rfl) (by kernel_rfl) (fun _ _ _ h => h) (Or.inl ⟨by kernel_rfl, ?_⟩) (by assumption) ?_
        rotate_left 1
        · intro w hSw
          (try dsimp only at hSw)
          go_simp
          all_goals (with_reducible rfl)
        try (conv => arg 8; simp only [Act.put, List.setIfInBounds_toArray, List.set_cons_zero, List.set_cons_succ])
        refine wpAnyH_take (i := 9) (oi := { dst := some 187, op := Op.load 24 (Operand.tmp 2), type := 24, pos := "law.go:90", after := #[{ on := 8, ground := Ground.guard }], guard := some (8, false) }) (v := ?_) rfl (by kernel_rfl) (by kernel_rfl) (by kernel_rfl) (fun _ _ _ h => h) (Or.inl ⟨by kernel_rfl, ?_⟩) (by assumption) ?_
        rotate_left 1
        · intro w hSw
          (try dsimp only at hSw)
          go_simp
          all_goals (with_reducible rfl)
        try (conv => arg 8; simp only [Act.put, List.setIfInBounds_toArray, List.set_cons_zero, List.set_cons_succ])
        refine wpAnyH_take (i := 10) (oi := { dst := some 188, op := Op.load 30 (Operand.tmp 8), type := 30, pos := "law.go:90", after := #[{ on := 8, ground := Ground.guard }], guard := some (8, false) }) (v := ?_) rfl (by kernel_rfl) (by kernel_rfl) (by kernel_rfl) (fun _ _ _ h => h) (Or.inl ⟨by kernel_rfl, ?_⟩) (by assumption) ?_
        rotate_left 1
        · intro w hSw
          (try dsimp only at hSw)
          go_simp
          all_goals (with_reducible rfl)
        try (conv => arg 8; simp only [Act.put, List.setIfInBounds_toArray, List.set_cons_zero, List.set_cons_succ])
        refine wpAnyH_take (i := 11) (oi := { dst := some 189, op := Op.load 30 (Operand.tmp 8), type := 30, pos := "law.go:90", after := #[{ on := 8, ground := Ground.guard }], guard := some (8, false) }) (v := ?_) rfl (by kernel_rfl) (by kernel_rfl) (by kernel_rfl) (fun _ _ _ h => h) (Or.inl ⟨by kernel_rfl, ?_⟩) (by assumption) ?_
        rotate_left 1
        · intro w hSw
          (try dsimp only at hSw)
          go_simp
          all_goals (with_reducible rfl)
        try (conv => arg 8; simp only [Act.put, List.setIfInBounds_toArray, List.set_cons_zero, List.set_cons_succ])
        refine wpAnyH_ready (rs := [12]) (by kernel_rfl) (by simp) ?_
        refine AllReadyH.cons (o := { dst := some 190, op := Op.call { callee := Callee.value (Operand.func 11), args := #[Operand.tmp 187, Operand.tmp 188, Operand.tmp 189], argTypes := #[24, 30, 30] }, type := 3, pos := "law.go:90", after := #[{ on := 9, ground := Ground.data }, { on := 10, ground := Ground.data }, { on := 11, ground := Ground.data }, { on := 8, ground := Ground.chain }, { on := 8, ground := Ground.guard }], guard := some (8, false) }) rfl (fun K hK => ?_) AllReadyH.nil
        go_simp
        go_at_call 11
        refine (C1.out _ (tab3_tabs (T7.out.stay hHeld.2))).mono ?_
        rintro e wb ⟨rfl, hbwb⟩
        have hkb : Below wc.heap.size wc wb := kb_call hbwb hHeld
        clear hHeld
        refine hK.out _ _ (KS.out _ hkb) (fun hHeld => ?_)
        clear hK K
        try (conv => arg 8; simp only [Act.put, List.setIfInBounds_toArray, List.set_cons_zero, List.set_cons_succ])
        refine wpAnyH_take (i := 13) (oi := { dst := some 191, op := Op.binOp BinOp.neq 3 (Operand.tmp 190) (Operand.const (Value.int IntKind.i64 0)) 3, type := 4, pos := "law.go:90", after := #[{ on := 12, ground := Ground.data }, { on := 8, ground := Ground.guard }], guard := some (8, false) }) (v := ?_) rfl (by kernel_rfl) (by kernel_rfl) (by kernel_rfl) (fun _ _ _ h => h) (Or.inl ⟨by kernel_rfl, ?_⟩) (by assumption) ?_
        rotate_left 1
        · intro w hSw
          (try dsimp only at hSw)
          go_simp
          all_goals (with_reducible rfl)
        try (conv => arg 8; simp only [Act.put, List.setIfInBounds_toArray, List.set_cons_zero, List.set_cons_succ])
        refine wpAnyH_take (i := 14) (oi := { dst := some 192, op := Op.pick (Operand.tmp 186) (Operand.const (Value.bool true)) (Operand.tmp 191), type := 4, pos := "law.go:90", after := #[{ on := 8, ground := Ground.data }, { on := 13, ground := Ground.data }], guard := none }) (v := ?_) rfl (by kernel_rfl) (by kernel_rfl) (by kernel_rfl) (fun _ _ _ h => h) (Or.inl ⟨by kernel_rfl, ?_⟩) (by assumption) ?_
        rotate_left 1
        · intro w hSw
          (try dsimp only at hSw)
          go_simp
          all_goals (with_reducible rfl)
        try (conv => arg 8; simp only [Act.put, List.setIfInBounds_toArray, List.set_cons_zero, List.set_cons_succ])
        refine wpAnyH_take (i := 15) (oi := { dst := some 193, op := Op.move (Operand.tmp 192), type := 4, pos := "law.go:90", after := #[{ on := 14, ground := Ground.data }, { on := 12, ground := Ground.chain }], guard := none }) (v := ?_) rfl (by kernel_rfl) (by kernel_rfl) (by kernel_rfl) (fun _ _ _ h => h) (Or.inl ⟨by kernel_rfl, ?_⟩) (by assumption) ?_
        rotate_left 1
        · intro w hSw
          (try dsimp only at hSw)
          go_simp
          all_goals (with_reducible rfl)
        try (conv => arg 8; simp only [Act.put, List.setIfInBounds_toArray, List.set_cons_zero, List.set_cons_succ])
        refine wpAnyH_take (i := 16) (oi := { dst := some 194, op := Op.fieldAddr 24 (Operand.tmp 2) 2, type := 0, pos := "law.go:90", after := #[{ on := 15, ground := Ground.guard }], guard := some (15, false) }) (v := ?_) rfl (by kernel_rfl) (by kernel_rfl) (by kernel_rfl) (fun _ _ _ h => h) (Or.inl ⟨by kernel_rfl, ?_⟩) (by assumption) ?_
        rotate_left 1
        · intro w hSw
          (try dsimp only at hSw)
          go_simp
          all_goals (with_reducible rfl)
        try (conv => arg 8; simp only [Act.put, List.setIfInBounds_toArray, List.set_cons_zero, List.set_cons_succ])
        refine wpAnyH_take (i := 17) (oi := { dst := some 195, op := Op.load 3 (Operand.tmp 194), type := 3, pos := "law.go:90", after := #[{ on := 16, ground := Ground.data }, { on := 15, ground := Ground.guard }], guard := some (15, false) }) (v := ?_) rfl (by kernel_rfl) (by kernel_rfl) (by kernel_rfl) (fun _ _ _ h => h) (Or.inl ⟨by kernel_rfl, ?_⟩) (by assumption) ?_
        rotate_left 1
        · intro w hSw
          (try dsimp only at hSw)
          go_simp
          all_goals (with_reducible rfl)
        try (conv => arg 8; simp only [Act.put, List.setIfInBounds_toArray, List.set_cons_zero, List.set_cons_succ])
        refine wpAnyH_take (i := 18) (oi := { dst := some 196, op := Op.binOp BinOp.eql 3 (Operand.tmp 195) (Operand.const (Value.int IntKind.i64 0)) 3, type := 4, pos := "law.go:90", after := #[{ on := 17, ground := Ground.data }, { on := 15, ground := Ground.guard }], guard := some (15, false) }) (v := ?_) rfl (by kernel_rfl) (by kernel_rfl) (by kernel_rfl) (fun _ _ _ h => h) (Or.inl ⟨by kernel_rfl, ?_⟩) (by assumption) ?_
        rotate_left 1
        · intro w hSw
          (try dsimp only at hSw)
          go_simp
          all_goals (with_reducible rfl)
        try (conv => arg 8; simp only [Act.put, List.setIfInBounds_toArray, List.set_cons_zero, List.set_cons_succ])
        refine wpAnyH_take (i := 19) (oi := { dst := some 197, op := Op.move (Operand.tmp 196), type := 4, pos := "law.go:90", after := #[{ on := 18, ground := Ground.data }, { on := 15, ground := Ground.chain }, { on := 15, ground := Ground.guard }], guard := some (15, false) }) (v := ?_) rfl (by kernel_rfl) (by kernel_rfl) (by kernel_rfl) (fun _ _ _ h => h) (Or.inl ⟨by kernel_rfl, ?_⟩) (by assumption) ?_
        rotate_left 1
        · intro w hSw
          (try dsimp only at hSw)
          go_simp
          all_goals (with_reducible rfl)
        try (conv => arg 8; simp only [Act.put, List.setIfInBounds_toArray, List.set_cons_zero, List.set_cons_succ])
        refine wpAnyH_take (i := 20) (oi := { dst := some 198, op := Op.fieldAddr 30 (Operand.tmp 8) 4, type := 0, pos := "law.go:90", after := #[{ on := 19, ground := Ground.guard }], guard := some (19, true) }) (v := undef) rfl (by kernel_rfl) (by kernel_rfl) (by kernel_rfl) (fun _ _ _ h => h) (Or.inr ⟨by kernel_rfl, rfl⟩) (by assumption) ?_
        try (conv => arg 8; simp only [Act.put, List.setIfInBounds_toArray, List.set_cons_zero, List.set_cons_succ])
        refine wpAnyH_take (i := 21) (oi := { dst := some 199, op := Op.load 22 (Operand.tmp 198), type := 22, pos := "law.go:90", after := #[{ on := 20, ground := Ground.data }, { on := 19, ground := Ground.guard }], guard := some (19, true) }) (v := undef) rfl (by kernel_rfl) (by kernel_rfl) (by kernel_rfl) (fun _ _ _ h => h) (Or.inr ⟨by kernel_rfl, rfl⟩) (by assumption) ?_
        try (conv => arg 8; simp only [Act.put, List.setIfInBounds_toArray, List.set_cons_zero, List.set_cons_succ])
        refine wpAnyH_take (i := 22) (oi := { dst := some 200, op := Op.fieldAddr 30 (Operand.tmp 8) 3, type := 0, pos := "law.go:90", after := #[{ on := 19, ground := Ground.guard }], guard := some (19, true) }) (v := undef) rfl (by kernel_rfl) (by kernel_rfl) (by kernel_rfl) (fun _ _ _ h => h) (Or.inr ⟨by kernel_rfl, rfl⟩) (by assumption) ?_
        try (conv => arg 8; simp only [Act.put, List.setIfInBounds_toArray, List.set_cons_zero, List.set_cons_succ])
        refine wpAnyH_take (i := 23) (oi := { dst := some 201, op := Op.fieldAddr 28 (Operand.tmp 200) 1, type := 0, pos := "law.go:90", after := #[{ on := 22, ground := Ground.data }, { on := 19, ground := Ground.guard }], guard := some (19, true) }) (v := undef) rfl (by kernel_rfl) (by kernel_rfl) (by kernel_rfl) (fun _ _ _ h => h) (Or.inr ⟨by kernel_rfl, rfl⟩) (by assumption) ?_
        try (conv => arg 8; simp only [Act.put, List.setIfInBounds_toArray, List.set_cons_zero, List.set_cons_succ])
        refine wpAnyH_take (i := 24) (oi := { dst := some 202, op := Op.load 22 (Operand.tmp 201), type := 22, pos := "law.go:90", after := #[{ on := 23, ground := Ground.data }, { on := 19, ground := Ground.guard }], guard := some (19, true) }) (v := undef) rfl (by kernel_rfl) (by kernel_rfl) (by kernel_rfl) (fun _ _ _ h => h) (Or.inr ⟨by kernel_rfl, rfl⟩) (by assumption) ?_
        try (conv => arg 8; simp only [Act.put, List.setIfInBounds_toArray, List.set_cons_zero, List.set_cons_succ])
        refine wpAnyH_take (i := 25) (oi := { dst := some 203, op := Op.binOp BinOp.sub 22 (Operand.tmp 202) (Operand.const (Value.int IntKind.i64 1)) 22, type := 22, pos := "law.go:90", after := #[{ on := 24, ground := Ground.data }, { on := 19, ground := Ground.guard }], guard := some (19, true) }) (v := undef) rfl (by kernel_rfl) (by kernel_rfl) (by kernel_rfl) (fun _ _ _ h => h) (Or.inr ⟨by kernel_rfl, rfl⟩) (by assumption) ?_
        try (conv => arg 8; simp only [Act.put, List.setIfInBounds_toArray, List.set_cons_zero, List.set_cons_succ])
        refine wpAnyH_take (i := 26) (oi := { dst := some 204, op := Op.binOp BinOp.neq 22 (Operand.tmp 199) (Operand.tmp 203) 22, type := 4, pos := "law.go:90", after := #[{ on := 21, ground := Ground.data }, { on := 25, ground := Ground.data }, { on := 19, ground := Ground.guard }], guard := some (19, true) }) (v := undef) rfl (by kernel_rfl) (by kernel_rfl) (by kernel_rfl) (fun _ _ _ h => h) (Or.inr ⟨by kernel_rfl, rfl⟩) (by assumption) ?_
        try (conv => arg 8; simp only [Act.put, List.setIfInBounds_toArray, List.set_cons_zero, List.set_cons_succ])
        refine wpAnyH_take (i := 27) (oi := { dst := some 205, op := Op.pick (Operand.tmp 197) (Operand.tmp 204) (Operand.const (Value.bool false)), type := 4, pos := "law.go:90", after := #[{ on := 19, ground := Ground.data }, { on := 26, ground := Ground.data }, { on := 15, ground := Ground.guard }], guard := some (15, false) }) (v := ?_) rfl (by kernel_rfl) (by kernel_rfl) (by kernel_rfl) (fun _ _ _ h => h) (Or.inl ⟨by kernel_rfl, ?_⟩) (by assumption) ?_
        rotate_left 1
        · intro w hSw
          (try dsimp only at hSw)
          go_simp
          all_goals (with_reducible rfl)
        try (conv => arg 8; simp only [Act.put, List.setIfInBounds_toArray, List.set_cons_zero, List.set_cons_succ])
        refine wpAnyH_take (i := 28) (oi := { dst := some 206, op := Op.pick (Operand.tmp 193) (Operand.const (Value.bool true)) (Operand.tmp 205), type := 4, pos := "law.go:90", after := #[{ on := 15, ground := Ground.data }, { on := 27, ground := Ground.data }], guard := none }) (v := ?_) rfl (by kernel_rfl) (by kernel_rfl) (by kernel_rfl) (fun _ _ _ h => h) (Or.inl ⟨by kernel_rfl, ?_⟩) (by assumption) ?_
        rotate_left 1
        · intro w hSw
          (try dsimp only at hSw)
          go_simp
          all_goals (with_reducible rfl)
        try (conv => arg 8; simp only [Act.put, List.setIfInBounds_toArray, List.set_cons_zero, List.set_cons_succ])
        refine wpAnyH_done (by kernel_rfl) ?_ _
        try simp only [Act.put, List.getElem_toArray, List.getElem_cons_succ, List.getElem_cons_zero, List.setIfInBounds_toArray, List.set_cons_zero, List.set_cons_succ]
        go_wp2
        exact ⟨⟨m, by omega, rfl, hBr.trans (hkb.mono hBr.size)⟩, by simp [RowKit.intOf]; omega⟩
    · obtain rfl : i = n := by omega
      have g1 : decide ((12 : Int) ≤ (i : Int)) = true := by simp; omega
      have g2 : decide ((i : Int) ≤ 27) = true := by simp; omega
      go_wp2_with fail
      refine (HA.out _ (T2.out.stay hb)).mono ?_
      rintro e w3 ⟨rfl, hb4⟩
      go_wp2
      go_ret
      exact ⟨rfl, hb3.trans ((hb.trans (hb4.mono hb.size)).mono hb3.size)⟩

end Go.Proofs.YtfmabjfibjnkoaaDoor
