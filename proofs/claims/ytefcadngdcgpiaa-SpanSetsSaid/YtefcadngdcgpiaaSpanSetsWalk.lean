/-
  What is proved: SpanSets returns true for all that it may be handed. Conditions: what came in lies in memory as the frame says.
-/
import Derived.Test.YtefcadngdcgpiaaSpW
import Derived.Test.YtefcadngdcgpiaaSpO
import Derived.Test.YtefcadngdcgpiaaFrameP
import Derived.Test.YtefcadngdcgpiaaSpU
namespace Go.Proofs.Ytefcadngdcgpiaa
open Go Go.RowKit Go.Proofs

set_option linter.unusedVariables false
set_option maxHeartbeats 8000000 in
set_option maxRecDepth 100000 in
theorem walkSpanSets (p : Option Addr) (n cp : Nat) (L : List Sp) (q : Option Addr) (m cq : Nat) (M : List Sp) (d : Int) (w : World) (hp : SpansArg w p n cp L) (hq : SpansArg w q m cq M) (hd : (Lit.int .i64 d).wf = true) :
    Calls Try.prog 3 #[.slice p n cp, .slice q m cq, .int .i64 d] w fun e w' => e = .returned (.bool true) ∧ Below w.heap.size w w' := by
  obtain ⟨rfl, hsp, h64p, -, hc0p⟩ := hp
  have Hp := Lib.hid hsp
  have Ap := Lib.hid h64p
  obtain ⟨rfl, hsq, h64q, -, hc0q⟩ := hq
  have Hq := Lib.hid hsq
  have Aq := Lib.hid h64q
  clear hsp h64p hsq h64q
  by_cases hbig : 40 < L.length ∨ 40 < M.length
  · have h2 : ((40 : Int) < (L.length : Int)) ∨ (¬ (40 : Int) < (L.length : Int) ∧ (40 : Int) < (M.length : Int)) := by omega
    clear hbig
    rcases h2 with d0 | ⟨d0, d1⟩
    all_goals
      go_enter Try.func3, Try.ntmps3
      go_wp2_with fail
      refine (awake_any _).mono ?_
      rintro e w1 ⟨rfl, hb1⟩
      go_wp2
      go_ret
      exact ⟨rfl, hb1⟩
  have n0 : L.length ≤ 40 := by omega
  have n1 : M.length ≤ 40 := by omega
  clear hbig
  have d0 : ¬ (40 : Int) < (L.length : Int) := by omega
  have d1 : ¬ (40 : Int) < (M.length : Int) := by omega
  go_enter Try.func3, Try.ntmps3
  go_wp2_with fail
  refine (awake_any _).mono ?_
  rintro e w0 ⟨rfl, hb0⟩
  have G0 := Lib.hid (Hp.out.below hb0 (Nat.le_refl _))
  go_wp2_with fail
  refine (Of_set p cp L w0 (by omega) Ap.out G0.out).mono ?_
  rintro e v0 ⟨u, rfl, ⟨K0, p0, c0, rfl, k0⟩, hc0, -⟩
  have HK0 := Lib.hid k0
  clear k0
  have hd0 := hb0.trans (hc0.mono hb0.size)
  have G1 := Lib.hid (Hq.out.below hd0 (Nat.le_refl _))
  go_wp2_with fail
  refine (Of_set q cq M v0 (by omega) Aq.out G1.out).mono ?_
  rintro e v1 ⟨u, rfl, ⟨K1, p1, c1, rfl, k1⟩, hc1, -⟩
  have HK1 := Lib.hid k1
  clear k1
  have hd1 := hd0.trans (hc1.mono hd0.size)
  obtain ⟨W4, hW4⟩ : ∃ W4, W4 = ((v1.alloc (.cells #[.slice p0 K0.length c0] 26)).alloc (.cells #[.slice p1 K1.length c1] 26)) := ⟨_, rfl⟩
  have hb4 : Below v1.heap.size v1 W4 := by rw [hW4]; exact (((Below.refl _ _).alloc (Nat.le_refl _) _).alloc (by simp <;> omega) _)
  have x0 : W4.cell? ⟨v1.heap.size, 0, none⟩ = some (.slice p0 K0.length c0) := by rw [hW4]; rw [World.cell?_alloc_lt _ _ _ (by simp <;> omega)]; exact new_cell _ _ _
  have hz1 : (v1.alloc (.cells #[.slice p0 K0.length c0] 26)).heap.size = v1.heap.size + 1 := by simp
  have x1 : W4.cell? ⟨v1.heap.size + 1, 0, none⟩ = some (.slice p1 K1.length c1) := by rw [hW4]; rw [← hz1]; exact new_cell _ _ _
  have hb7 := hd1.trans (hb4.mono hd1.size)
  have S0 : Hid (IsSet W4 (2 * L.length) (fun d => hasB L d) (.agg #[.slice p0 K0.length c0])) := Lib.hid (IsSet.below ⟨K0, p0, c0, rfl, HK0.out⟩ (hc1.trans (hb4.mono hc1.size)) (Nat.le_refl _))
  have S1 : Hid (IsSet W4 (2 * M.length) (fun d => hasB M d) (.agg #[.slice p1 K1.length c1])) := Lib.hid (IsSet.below ⟨K1, p1, c1, rfl, HK1.out⟩ hb4 (Nat.le_refl _))
  clear HK0 hc0 hd0 G0 HK1 hc1 hd1 G1 hb4 hz1
  have P0 := Lib.hid (Hp.out.below hb7 (Nat.le_refl _))
  have P1 := Lib.hid (Hq.out.below hb7 (Nat.le_refl _))
  have hB0 := Below.refl W4.heap.size W4
  clear Hp Hq hd
  go_wp2_with fail
  rw [← hW4]
  clear hW4
  refine (rOf_any p cp L W4 (by omega) P0.out hc0p).mono ?_
  rintro e w11 ⟨K5, q5, c5, rfl, k5, m5, l5, s5, hb11⟩
  have hB1 := hB0.trans (hb11.mono hB0.size)
  replace k5 := Lib.hid k5
  replace m5 := Lib.hid m5
  replace s5 := Lib.hid s5
  have c0 := (kp1 x0 hB1).1
  have c1 := (kp1 x1 hB1).1
  go_wp2_with fail
  refine (AllK (S0.out.below hB1 (Nat.le_refl _)) (by omega)).mono ?_
  rintro e w12 ⟨KA, qA, cA, rfl, kA, mA, aA, lA, sA, hb12⟩
  have hB2 := hB1.trans (hb12.mono hB1.size)
  clear c0 c1
  replace kA := Lib.hid kA
  replace mA := Lib.hid mA
  replace aA := Lib.hid aA
  replace sA := Lib.hid sA
  have r5 := Lib.hid (SpansIn.below s5.out hb12 (Nat.le_refl _))
  have hEq : KA = K5 := canon_eq kA.out k5.out mA.out m5.out (fun d => rfl)
  have A5 : Hid (∀ s ∈ K5, in64 s.1 ∧ in64 s.2) := Lib.hid (by rw [← hEq]; exact aA.out)
  have HEq := Lib.hid hEq
  clear hEq
  have c0 := (kp1 x0 hB2).1
  have c1 := (kp1 x1 hB2).1
  go_wp2_with fail
  refine (SameK sA.out r5.out (by omega) HEq.out).mono ?_
  rintro e w13 ⟨rfl, hb13⟩
  have hB3 := hB2.trans (hb13.mono hB2.size)
  clear c0 c1
  have t5 := Lib.hid (SpansIn.below r5.out hb13 (Nat.le_refl _))
  have c0 := (kp1 x0 hB3).1
  have c1 := (kp1 x1 hB3).1
  go_wp2_with fail
  refine (UnionK (S0.out.below hB3 (Nat.le_refl _)) (S1.out.below hB3 (Nat.le_refl _)) (by omega) (by omega)).mono ?_
  rintro e w14 ⟨va, rfl, isa, hb14, -⟩
  have hB4 := hB3.trans (hb14.mono hB3.size)
  clear c0 c1
  replace isa := Lib.hid isa
  have c0 := (kp1 x0 hB4).1
  have c1 := (kp1 x1 hB4).1
  go_wp2_with fail
  refine (AllK isa.out (by omega)).mono ?_
  rintro e w15 ⟨Ka, qa, ca, rfl, ka, ma, aa, la, sa, hb15⟩
  have hB5 := hB4.trans (hb15.mono hB4.size)
  clear c0 c1
  replace ka := Lib.hid ka
  replace ma := Lib.hid ma
  replace aa := Lib.hid aa
  replace sa := Lib.hid sa
  have c0 := (kp1 x0 hB5).1
  have c1 := (kp1 x1 hB5).1
  go_wp2_with fail
  refine (Together_any p cp L q cq M 1 _ (by omega) (by omega) (P0.out.below hB5 (Nat.le_refl _)) (P1.out.below hB5 (Nat.le_refl _)) hc0p hc0q (.inl rfl)).mono ?_
  rintro e w16 ⟨Ja, ya, za, rfl, ea, fa, ga, ua, hb16⟩
  have hB6 := hB5.trans (hb16.mono hB5.size)
  clear c0 c1
  replace ea := Lib.hid ea
  replace fa := Lib.hid fa
  replace ua := Lib.hid ua
  have sab := Lib.hid (SpansIn.below sa.out hb16 (Nat.le_refl _))
  have c0 := (kp1 x0 hB6).1
  have c1 := (kp1 x1 hB6).1
  go_wp2_with fail
  refine (SameK sab.out ua.out (by omega) (canon_eq ka.out ea.out ma.out fa.out (fun d => by simp [wayB]))).mono ?_
  rintro e w17 ⟨rfl, hb17⟩
  have hB7 := hB6.trans (hb17.mono hB6.size)
  clear c0 c1
  have c0 := (kp1 x0 hB7).1
  have c1 := (kp1 x1 hB7).1
  go_wp2_with fail
  refine (MeetK (S0.out.below hB7 (Nat.le_refl _)) (S1.out.below hB7 (Nat.le_refl _)) (by omega) (by omega)).mono ?_
  rintro e w18 ⟨vb, rfl, isb, hb18, -⟩
  have hB8 := hB7.trans (hb18.mono hB7.size)
  clear c0 c1
  replace isb := Lib.hid isb
  have c0 := (kp1 x0 hB8).1
  have c1 := (kp1 x1 hB8).1
  go_wp2_with fail
  refine (AllK isb.out (by omega)).mono ?_
  rintro e w19 ⟨Kb, qb, cb, rfl, kb, mb, ab, lb, sb, hb19⟩
  have hB9 := hB8.trans (hb19.mono hB8.size)
  clear c0 c1
  replace kb := Lib.hid kb
  replace mb := Lib.hid mb
  replace ab := Lib.hid ab
  replace sb := Lib.hid sb
  have c0 := (kp1 x0 hB9).1
  have c1 := (kp1 x1 hB9).1
  go_wp2_with fail
  refine (Together_any p cp L q cq M 2 _ (by omega) (by omega) (P0.out.below hB9 (Nat.le_refl _)) (P1.out.below hB9 (Nat.le_refl _)) hc0p hc0q (.inr (.inl rfl))).mono ?_
  rintro e w20 ⟨Jb, yb, zb, rfl, eb, fb, gb, ub, hb20⟩
  have hB10 := hB9.trans (hb20.mono hB9.size)
  clear c0 c1
  replace eb := Lib.hid eb
  replace fb := Lib.hid fb
  replace ub := Lib.hid ub
  have sbb := Lib.hid (SpansIn.below sb.out hb20 (Nat.le_refl _))
  have c0 := (kp1 x0 hB10).1
  have c1 := (kp1 x1 hB10).1
  go_wp2_with fail
  refine (SameK sbb.out ub.out (by omega) (canon_eq kb.out eb.out mb.out fb.out (fun d => by simp [wayB]))).mono ?_
  rintro e w21 ⟨rfl, hb21⟩
  have hB11 := hB10.trans (hb21.mono hB10.size)
  clear c0 c1
  have c0 := (kp1 x0 hB11).1
  have c1 := (kp1 x1 hB11).1
  go_wp2_with fail
  refine (MinusK (S0.out.below hB11 (Nat.le_refl _)) (S1.out.below hB11 (Nat.le_refl _)) (by omega) (by omega)).mono ?_
  rintro e w22 ⟨vc, rfl, isc, hb22, -⟩
  have hB12 := hB11.trans (hb22.mono hB11.size)
  clear c0 c1
  replace isc := Lib.hid isc
  have c0 := (kp1 x0 hB12).1
  have c1 := (kp1 x1 hB12).1
  go_wp2_with fail
  refine (AllK isc.out (by omega)).mono ?_
  rintro e w23 ⟨Kc, qc, cc, rfl, kc, mc, ac, lc, sc, hb23⟩
  have hB13 := hB12.trans (hb23.mono hB12.size)
  clear c0 c1
  replace kc := Lib.hid kc
  replace mc := Lib.hid mc
  replace ac := Lib.hid ac
  replace sc := Lib.hid sc
  have c0 := (kp1 x0 hB13).1
  have c1 := (kp1 x1 hB13).1
  go_wp2_with fail
  refine (Together_any p cp L q cq M 3 _ (by omega) (by omega) (P0.out.below hB13 (Nat.le_refl _)) (P1.out.below hB13 (Nat.le_refl _)) hc0p hc0q (.inr (.inr rfl))).mono ?_
  rintro e w24 ⟨Jc, yc, zc, rfl, ec, fc, gc, uc, hb24⟩
  have hB14 := hB13.trans (hb24.mono hB13.size)
  clear c0 c1
  replace ec := Lib.hid ec
  replace fc := Lib.hid fc
  replace uc := Lib.hid uc
  have scb := Lib.hid (SpansIn.below sc.out hb24 (Nat.le_refl _))
  have c0 := (kp1 x0 hB14).1
  have c1 := (kp1 x1 hB14).1
  go_wp2_with fail
  refine (SameK scb.out uc.out (by omega) (canon_eq kc.out ec.out mc.out fc.out (fun d => by simp [wayB]))).mono ?_
  rintro e w25 ⟨rfl, hb25⟩
  have hB15 := hB14.trans (hb25.mono hB14.size)
  clear c0 c1
  obtain ⟨hL, hhL⟩ : ∃ hL, hL = hasB L d := ⟨_, rfl⟩
  have HHas := Lib.hid (HasK hL (S0.out.below hB15 (Nat.le_refl _)) (by omega) hhL.symm)
  have HAny : Hid (∀ W, SpansIn W p L → Calls Try.prog 21 #[.slice p L.length cp, .int .i64 d] W fun e w' => e = .returned (.bool hL) ∧ Below W.heap.size W w') := Lib.hid (fun W h => by rw [hhL]; exact rAny_any p cp L d W (by omega) h)
  clear hhL
  have c0 := (kp1 x0 hB15).1
  have c1 := (kp1 x1 hB15).1
  go_wp2_with fail
  refine (HHas.out).mono ?_
  rintro e w26 ⟨rfl, hb26⟩
  have hB16 := hB15.trans (hb26.mono hB15.size)
  clear c0 c1
  have c0 := (kp1 x0 hB16).1
  have c1 := (kp1 x1 hB16).1
  go_wp2_with fail
  refine (HAny.out _ (P0.out.below hB16 (Nat.le_refl _))).mono ?_
  rintro e w27 ⟨rfl, hb27⟩
  have hB17 := hB16.trans (hb27.mono hB16.size)
  clear c0 c1
  clear HAny HHas
  have c0 := (kp1 x0 hB17).1
  have c1 := (kp1 x1 hB17).1
  go_wp2_with fail
  refine (Days_any _ _ _ _ (by omega) (S0.out.below hB17 (Nat.le_refl _))).mono ?_
  rintro e w28 ⟨⟨KD, kD, mD, aD, rfl⟩, hb28⟩
  have hB18 := hB17.trans (hb28.mono hB17.size)
  clear c0 c1
  have hDE : KD = K5 := canon_eq kD k5.out mD m5.out (fun d => rfl)
  subst hDE
  clear kD mD aD
  have t6 := Lib.hid (SpansIn.below t5.out (show Below w13.heap.size w13 w28 from (hb14.trans ((hb15.trans ((hb16.trans ((hb17.trans ((hb18.trans ((hb19.trans ((hb20.trans ((hb21.trans ((hb22.trans ((hb23.trans ((hb24.trans ((hb25.trans ((hb26.trans ((hb27.trans (hb28.mono hb27.size)).mono hb26.size)).mono hb25.size)).mono hb24.size)).mono hb23.size)).mono hb22.size)).mono hb21.size)).mono hb20.size)).mono hb19.size)).mono hb18.size)).mono hb17.size)).mono hb16.size)).mono hb15.size)).mono hb14.size))) (Nat.le_refl _))
  have c0 := (kp1 x0 hB18).1
  have c1 := (kp1 x1 hB18).1
  go_wp2_with fail
  refine (rDays_any _ _ KD _ (by omega) A5.out t6.out).mono ?_
  rintro e w29 ⟨rfl, hb29⟩
  have hB19 := hB18.trans (hb29.mono hB18.size)
  clear c0 c1
  go_wp2
  go_ret
  exact ⟨by simp, hb7.trans (hB19.mono hb7.size)⟩

end Go.Proofs.Ytefcadngdcgpiaa
