/-
  What is proved: the walk of the statement LeaveTurns: the call returns true. Conditions: the tables read as their texts lay them.
-/
import Derived.Test.YtpejdbnphjheeaaDoorLvX
import Derived.BigQuiet
namespace Go.Proofs.YtpejdbnphjheeaaDoor
open Go Go.RowKit Go.Proofs Go.Proofs.YtpejdbnphjheeaaDoor.Cv
set_option linter.unusedVariables false

theorem last_year : yearIn 84005 2199 := by unfold yearIn; decide
/-- Both accounts, told. -/
theorem turns_fold {Y0 Ca Ex : Int} {n k : Nat} {D G T : Nat → Int} (hn : n ≤ 900) (hk : k + 1 < n) (hd : D k = D (k + 1)) (h : IntKind.i64.wrap (G k + G (k + 1)) = 0 ∨ IntKind.i64.wrap (T k + T (k + 1)) = 0) : ∃ x0 x1 x2 x3 r r2 : Int,
    (∀ (W : World) p cp, n ≤ cp → MvIn W p n D G T → Len W → Calls Tryd.prog 10 #[.agg #[.int .i64 Y0, .int .i64 Ca, .int .i64 Ex], .int .i64 84005, .slice p n cp] W fun e w' => e = .returned (.tuple #[.agg #[.int .i64 x0, .int .i64 x1, .int .i64 x2, .int .i64 x3], .int .i64 r]) ∧ Below W.heap.size W w') ∧
    (∀ (W : World) p cp, n ≤ cp → MvIn W p n (swN D k) (swN G k) (swN T k) → Len W → Calls Tryd.prog 10 #[.agg #[.int .i64 Y0, .int .i64 Ca, .int .i64 Ex], .int .i64 84005, .slice p n cp] W fun e w' => e = .returned (.tuple #[.agg #[.int .i64 x0, .int .i64 x1, .int .i64 x2, .int .i64 x3], .int .i64 r2]) ∧ Below W.heap.size W w') ∧
    (((r == 0) = true ∧ (r2 == 0) = true) ∨ ((r == 0) = false ∧ (r2 == 0) = false)) := by
  have conv : checkV Y0 Ca Ex 84005 n (swN D k) (swN G k) (swN T k) = 0 → checkV Y0 Ca Ex 84005 n D G T = 0 := fun h => by
    have := check_sw (D := swN D k) (G := swN G k) (T := swN T k) hk (by rw [swN_at, swN_at]; simp [hd]) h
    rwa [swN_swN, swN_swN, swN_swN] at this
  by_cases hv : checkV Y0 Ca Ex 84005 n D G T = 0
  · obtain ⟨-, -, -, hg, -⟩ := check_zero hv
    have a := (hg k (by omega)).2.2
    have b := (hg (k + 1) hk).2.2
    simp only [Ev.ok] at a b
    rw [IntWalk.i64_in _ (by omega), IntWalk.i64_in _ (by omega)] at h
    refine ⟨_, _, _, _, 0, 0, fun W p cp hcp hM hL => fold_is hv last_year W hn hcp hM hL, fun W p cp hcp hM hL => ?_, .inl ⟨rfl, rfl⟩⟩
    have := fold_is (check_sw hk hd hv) last_year W hn hcp hM hL
    rw [← years_sw hv hk hd (by omega)] at this
    exact this
  · have hv2 : checkV Y0 Ca Ex 84005 n (swN D k) (swN G k) (swN T k) ≠ 0 := fun h => hv (conv h)
    refine ⟨0, 0, 0, 0, checkV Y0 Ca Ex 84005 n D G T, checkV Y0 Ca Ex 84005 n (swN D k) (swN G k) (swN T k), fun W p cp hcp hM hL => ?_, fun W p cp hcp hM hL => ?_, .inr ⟨beq_eq_false_iff_ne.2 hv, beq_eq_false_iff_ne.2 hv2⟩⟩
    · refine (fold_any Y0 Ca Ex 84005 p n cp D G T W hn hcp hM hL).mono ?_
      rintro e w' ⟨hb, ⟨-, h⟩ | ⟨h, -⟩⟩
      · exact ⟨h, hb⟩
      · exact absurd h hv
    · refine (fold_any Y0 Ca Ex 84005 p n cp _ _ _ W hn hcp hM hL).mono ?_
      rintro e w' ⟨hb, ⟨-, h⟩ | ⟨h, -⟩⟩
      · exact ⟨h, hb⟩
      · exact absurd h hv2

theorem RowM.drew {w : World} {g n : Nat} {D G T : Nat → Int} (h : RowM w g n D G T) : RowM w.drew g n D G T := h
theorem RowM.sw {w : World} {g n : Nat} {D G T : Nat → Int} (h : RowM w g n D G T) (k : Nat) : RowM (putM (putM w g k (D (k + 1)) (G (k + 1)) (T (k + 1))) g (k + 1) (D k) (G k) (T k)) g n (swN D k) (swN G k) (swN T k) := (h.store k (D (k + 1)) (G (k + 1)) (T (k + 1))).store (k + 1) (D k) (G k) (T k)
theorem below_drewN {B : Nat} {w0 w : World} (h : Below B w0 w) (n : Nat) : Below B w0 (w.drewN n) := ⟨h.os, h.tape, h.output, h.size, h.block⟩

set_option maxHeartbeats 8000000 in
set_option maxRecDepth 100000 in
theorem walkLeaveTurns (py pc px : Int) (a : Option Addr) (n c : Nat) (f : Nat → Mv) (at8 : Int) (w : World) (hP : in64 py ∧ in64 pc ∧ in64 px) (hM : MvArg w a n c f) (h80 : (Lit.int .u8 at8).wf = true) (hT : Tab4 w) :
    Calls Tryd.prog 6 #[.agg #[.int .i64 py, .int .i64 pc, .int .i64 px], .slice a n c, .int .u8 at8] w fun e w' => e = .returned (.bool true) ∧ Below w.heap.size w w' := by
  have h8 : 0 ≤ at8 ∧ at8 ≤ 255 := by
    simp [Lit.wf, IntKind.min, IntKind.max, IntKind.bits, IntKind.signed] at h80
    omega
  clear h80
  have hmv := hM.mv
  obtain ⟨-, hcp, -, -⟩ := hM
  obtain ⟨W1, hW1⟩ : ∃ W1, W1 = w.alloc (.cells #[.int .i64 py, .int .i64 pc, .int .i64 px] 23) := ⟨_, rfl⟩
  have hb0 : Below w.heap.size w W1 := by rw [hW1]; exact (Below.refl w.heap.size w).alloc (Nat.le_refl _) _
  have hp : W1.heap[w.heap.size]? = some (.cells #[.int .i64 py, .int .i64 pc, .int .i64 px] 23 (0, 0)) := by rw [hW1]; exact heap_new _ _
  have T1 := Lib.hid (hT.stay hb0)
  have HA := Lib.hid awake_any
  have mixed : Tryd.prog.follows .mixedOrders = true := by kernel_rfl
  obtain ⟨D, hD⟩ : ∃ D : Nat → Int, D = fun j => (f j).1 := ⟨_, rfl⟩
  obtain ⟨G, hG⟩ : ∃ D : Nat → Int, D = fun j => (f j).2.1 := ⟨_, rfl⟩
  obtain ⟨T, hT'⟩ : ∃ D : Nat → Int, D = fun j => (f j).2.2 := ⟨_, rfl⟩
  rw [← hD, ← hG, ← hT'] at hmv
  clear hD hG hT' hT hP
  have key : decide ((n : Int) < 2) = true ∨ (decide ((n : Int) < 2) = false ∧ decide ((100 : Int) < (n : Int)) = true) ∨ (decide ((n : Int) < 2) = false ∧ decide ((100 : Int) < (n : Int)) = false) := by
    simp only [decide_eq_true_eq, decide_eq_false_iff_not]; omega
  rcases key with d0 | ⟨d0, d1⟩ | ⟨d0, d1⟩
  · go_enter Tryd.func6, Tryd.ntmps6
    go_wp2_with fail
    rw [← hW1]
    refine (HA.out _ T1.out).mono ?_
    rintro e w2 ⟨rfl, hb⟩
    go_wp2
    go_ret
    exact ⟨rfl, hb0.trans (hb.mono hb0.size)⟩
  · go_enter Tryd.func6, Tryd.ntmps6
    go_wp2_with fail
    rw [← hW1]
    refine (HA.out _ T1.out).mono ?_
    rintro e w2 ⟨rfl, hb⟩
    go_wp2
    go_ret
    exact ⟨rfl, hb0.trans (hb.mono hb0.size)⟩
  · have n2 : 2 ≤ n := by have := of_decide_eq_false d0; omega
    have n100 : n ≤ 100 := by have := of_decide_eq_false d1; omega
    obtain ⟨k, hk, hkl⟩ : ∃ k : Nat, at8.tmod ((n : Int) - 1) = (k : Int) ∧ k + 1 < n := ⟨(at8 % ((n : Int) - 1)).toNat, by
      have h1 := Int.emod_nonneg at8 (show (n : Int) - 1 ≠ 0 by omega)
      rw [Int.tmod_eq_emod_of_nonneg h8.1]; omega, by
      have h1 := Int.emod_nonneg at8 (show (n : Int) - 1 ≠ 0 by omega)
      have h2 := Int.emod_lt_of_pos at8 (show 0 < (n : Int) - 1 by omega)
      omega⟩
    have w1 : IntKind.i64.wrap ((n : Int) - 1) = (n : Int) - 1 := IntWalk.i64_in _ (by omega)
    have w2 : IntKind.i64.wrap at8 = at8 := IntWalk.i64_in _ (by omega)
    have w3 : IntKind.i64.wrap ((k : Int)) = (k : Int) := IntWalk.i64_in _ (by omega)
    have w4 : IntKind.i64.wrap ((k : Int) + 1) = (k : Int) + 1 := IntWalk.i64_in _ (by omega)
    have hz : ((n : Int) - 1 == 0) = false := by rw [beq_eq_false_iff_ne]; omega
    have hz1 : ¬ (n : Int) - 1 = 0 := by omega
    rcases hmv with h | ⟨b, o, rfl, hc⟩
    · omega
    have hbl : b < w.heap.size := World.block_lt_of_cell? w _ (hc 0 (by omega)).1
    have hc1 := fun j hj => (fun h => ⟨stay hb0 h.1, stay hb0 h.2.1, stay hb0 h.2.2⟩ : _ → W1.cell? ⟨b, o + j * 3, none⟩ = some (.int .i64 (D j)) ∧ W1.cell? ⟨b, o + j * 3 + 1, none⟩ = some (.int .i64 (G j)) ∧ W1.cell? ⟨b, o + j * 3 + 2, none⟩ = some (.int .i64 (T j))) (hc j hj)
    clear hc
    have C := Lib.hid hc1
    obtain ⟨c0, c1, c2⟩ := hc1 k (by omega)
    obtain ⟨e0, e1, e2⟩ := hc1 (k + 1) hkl
    clear hc1
    have i1 : (k : Int) < (n : Int) := by omega
    have i2 : (k : Int) + 1 < (n : Int) := by omega
    have i3 : (0 : Int) ≤ (k : Int) := by omega
    have i4 : (0 : Int) ≤ (k : Int) + 1 := by omega
    have hN2 := Lib.hid (And.intro n2 (And.intro n100 hkl))
    have key : ((D k != D (k + 1)) = true ∨ ((D k != D (k + 1)) = false ∧ (IntKind.i64.wrap (G k + G (k + 1)) != 0) = true ∧ (IntKind.i64.wrap (T k + T (k + 1)) != 0) = true)) ∨ ((D k != D (k + 1)) = false ∧ (((IntKind.i64.wrap (G k + G (k + 1)) != 0) = true ∧ (IntKind.i64.wrap (T k + T (k + 1)) != 0) = false) ∨ (IntKind.i64.wrap (G k + G (k + 1)) != 0) = false)) := by
      cases (D k != D (k + 1)) <;> cases (IntKind.i64.wrap (G k + G (k + 1)) != 0) <;> cases (IntKind.i64.wrap (T k + T (k + 1)) != 0) <;> simp
    have HPL := Lib.hid hp
    clear hp hkl n2 n100
    rcases key with hbad | ⟨q0, hgood⟩
    · generalize D k = dk at c0 hbad
      generalize D (k + 1) = dl at e0 hbad
      generalize G k = gk at c1 hbad
      generalize G (k + 1) = gl at e1 hbad
      generalize T k = tk at c2 hbad
      generalize T (k + 1) = tl at e2 hbad
      clear C
      rcases hbad with q0 | ⟨q0, q1, q2⟩
      all_goals
        go_enter Tryd.func6, Tryd.ntmps6
        go_upto_region 4 with fail
        rw [← hW1]; clear hW1
        go_quiet (fail)
        go_wp2_with fail
        have hbq := below_drewN (Below.refl W1.heap.size W1) nq
        have T2 := Lib.hid (T1.out.stay hbq)
        have hbr := hb0.trans (hbq.mono hb0.size)
        refine (HA.out _ T2.out).mono ?_
        rintro e w2 ⟨rfl, hb⟩
        go_wp2
        go_ret
        exact ⟨rfl, hbr.trans (hb.mono hbr.size)⟩
    · have HC := Lib.hid (show IntKind.i64.wrap (G k + G (k + 1)) = 0 ∨ IntKind.i64.wrap (T k + T (k + 1)) = 0 from by
        rcases hgood with ⟨-, h⟩ | h
        · exact .inr (bne_eq_false_iff_eq.1 h)
        · exact .inl (bne_eq_false_iff_eq.1 h))
      have HD := Lib.hid (show D k = D (k + 1) from bne_eq_false_iff_eq.1 q0)
      have HF := Lib.hid (turns_fold (Y0 := py) (Ca := pc) (Ex := px) (n := n) (k := k) (D := D) (G := G) (T := T) (by have := hN2.out; omega) hN2.out.2.2 HD.out HC.out)
      generalize D k = dk at c0 q0
      generalize D (k + 1) = dl at e0 q0
      generalize G k = gk at c1 hgood
      generalize G (k + 1) = gl at e1 hgood
      generalize T k = tk at c2 hgood
      generalize T (k + 1) = tl at e2 hgood
      have hgood : ((IntKind.i64.wrap (gk + gl) != 0) = true ∧ IntKind.i64.wrap (tk + tl) = 0) ∨ IntKind.i64.wrap (gk + gl) = 0 := by
        rcases hgood with ⟨h, h2⟩ | h
        · exact .inl ⟨h, bne_eq_false_iff_eq.1 h2⟩
        · exact .inr (bne_eq_false_iff_eq.1 h)
      rcases hgood with ⟨q1, q2⟩ | q1
      all_goals
        go_enter Tryd.func6, Tryd.ntmps6
        go_upto_region 4 with fail
        rw [← hW1]; clear hW1
        go_quiet (fail)
        have hbq := below_drewN (Below.refl W1.heap.size W1) nq
        have T2 := Lib.hid (T1.out.stay hbq)
        have hbr := hb0.trans (hbq.mono hb0.size)
        have HC2 := Lib.hid (fun j hj => (fun h => ⟨stay hbq h.1, stay hbq h.2.1, stay hbq h.2.2⟩ : _ → (W1.drewN nq).cell? ⟨b, o + j * 3, none⟩ = some (.int .i64 (D j)) ∧ (W1.drewN nq).cell? ⟨b, o + j * 3 + 1, none⟩ = some (.int .i64 (G j)) ∧ (W1.drewN nq).cell? ⟨b, o + j * 3 + 2, none⟩ = some (.int .i64 (T j))) (C.out j hj))
        have HPL2 := Lib.hid ((hbq.block _ (lt_of_at HPL.out)).trans HPL.out)
        clear hbq c0 c1 c2 e0 e1 e2 C T1 HPL q0 q1 hgood
        try clear q2
        generalize W1.drewN nq = W2 at *
        have hO : (W2.alloc (.cells #[] 42)).ownsRow W2.heap.size 42 3 (.slice (some ⟨W2.heap.size, 0, none⟩) 0 0) 0 [] := World.ownsRow_made W2 #[] 0 (Nat.le_refl _) (by unfold maxLen; omega) (by simp)
        have HO := Lib.hid hO
        clear hO
        go_wp2_with (at_builtin; refine app_mv HO.out (fun j hj => (fun h => ⟨stay ((Below.refl _ _).alloc (Nat.le_refl _) _) h.1, stay ((Below.refl _ _).alloc (Nat.le_refl _) _) h.2.1, stay ((Below.refl _ _).alloc (Nat.le_refl _) _) h.2.2⟩) (HC2.out j hj)) (by have := hN2.out; omega) (by simp) rfl _ _ rfl rfl rfl ?_; intro v' w3 ho hg; have HO3 := Lib.hid ho; have HG3 := Lib.hid hg; clear ho hg)
        clear hz hz1 h8
        have hbA := (Below.refl W2.heap.size W2).alloc (Nat.le_refl _) (.cells #[] 42)
        have hb3 : Below W2.heap.size W2 w3 := hbA.grown HG3.out hbA.size (fun k hk => (HO.out.lt k hk).1)
        obtain ⟨g, cg, rfl, hgW, hcg, hR⟩ := own_rowM (D := D) (G := G) (T := T) (by have := HO3.out; rwa [Nat.zero_add, List.nil_append] at this) (by have := hN2.out; omega)
        have HR := Lib.hid hR
        obtain ⟨⟨c0, c1, c2⟩, f0⟩ := hR.2 k (by have := hN2.out; omega)
        obtain ⟨⟨e0, e1, e2⟩, f1⟩ := hR.2 (k + 1) hN2.out.2.2
        obtain ⟨x1, x2, x3, x4, x5⟩ := exchM hR hN2.out.2.2 (D k) (G k) (T k) (D (k + 1)) (G (k + 1)) (T (k + 1))
        unfold putM at x3 x4 x5
        clear hR HO HO3 HG3 hbA
        go_region
        go_upto_region 8 with fail
        obtain ⟨W4, hW4⟩ : ∃ W4, W4 = (putM (putM w3 g k (D (k + 1)) (G (k + 1)) (T (k + 1))) g (k + 1) (D k) (G k) (T k)).drew := ⟨_, rfl⟩
        have hR4 : RowM W4 g n (swN D k) (swN G k) (swN T k) := by rw [hW4]; exact (HR.out.sw k).drew
        have hb4 : Below W2.heap.size W2 W4 := by rw [hW4]; exact (putM_below (putM_below hb3 hgW _ _ _ _) hgW _ _ _ _).drew
        unfold putM at hW4
        rw [← hW4]
        clear hW4 x1 x2 x3 x4 x5 c0 c1 c2 e0 e1 e2 f0 f1 HR hb3 HC HD
        have T4 := Lib.hid (T2.out.stay hb4)
        have hbz := hbr.trans (hb4.mono hbr.size)
        have hpl4 := (hb4.block _ (lt_of_at HPL2.out)).trans HPL2.out
        obtain ⟨x0, x1, x2, x3, r, r2, F1, F2, hrr⟩ := HF.out
        have HF1 := Lib.hid (F1 W4 (some ⟨b, o, none⟩) c hcp (.inr ⟨b, o, rfl, fun j hj => (fun h => ⟨stay hb4 h.1, stay hb4 h.2.1, stay hb4 h.2.2⟩) (HC2.out j hj)⟩) T4.out.1)
        have HR4 := Lib.hid hR4
        have HF2 := Lib.hid F2
        have HPL4 := Lib.hid hpl4
        have p0 : W4.cell? ⟨w.heap.size, 0, none⟩ = some (.int .i64 py) := cell_of hpl4 0 rfl
        have p1 : W4.cell? ⟨w.heap.size, 1, none⟩ = some (.int .i64 pc) := cell_of hpl4 1 rfl
        have p2 : W4.cell? ⟨w.heap.size, 2, none⟩ = some (.int .i64 px) := cell_of hpl4 2 rfl
        clear hR4 F1 F2 HF HC2 hpl4 HPL2 T2 hb4
        go_wp2_with fail
        refine (HF1.out).mono ?_
        rintro e w5 ⟨rfl, hb5⟩
        clear p0 p1 p2
        have hbw := (Below.refl w5.heap.size w5).alloc (Nat.le_refl _) (.cells #[.int .i64 x0, .int .i64 x1, .int .i64 x2, .int .i64 x3] 28)
        obtain ⟨W6, hW6⟩ : ∃ W6, W6 = w5.alloc (.cells #[.int .i64 x0, .int .i64 x1, .int .i64 x2, .int .i64 x3] 28) := ⟨_, rfl⟩
        have hA6 : AccAt W6 w5.heap.size x0 x1 x2 x3 := by rw [hW6]; exact AccAt.new _ _ _ _ _
        have hb6 : Below W4.heap.size W4 W6 := by rw [hW6]; exact hb5.trans (hbw.mono hb5.size)
        have hpl6 := (hb6.block _ (lt_of_at HPL4.out)).trans HPL4.out
        have p0 : W6.cell? ⟨w.heap.size, 0, none⟩ = some (.int .i64 py) := cell_of hpl6 0 rfl
        have p1 : W6.cell? ⟨w.heap.size, 1, none⟩ = some (.int .i64 pc) := cell_of hpl6 1 rfl
        have p2 : W6.cell? ⟨w.heap.size, 2, none⟩ = some (.int .i64 px) := cell_of hpl6 2 rfl
        have T6 := Lib.hid (T4.out.stay hb6)
        have HF6 := Lib.hid (HF2.out W6 (some ⟨g, 0, none⟩) cg hcg (HR4.out.mv.below hb6 (Nat.le_refl _)) T6.out.1)
        have hbz6 := hbz.trans (hb6.mono hbz.size)
        have HA6 := Lib.hid hA6
        clear hpl6 hA6 hb6 hb5 hbw HF1 HF2 HR4 T4
        go_upto_region 9 with fail
        rw [← hW6]; clear hW6
        go_wp2_with fail
        refine (HF6.out).mono ?_
        rintro e w7 ⟨rfl, hb7⟩
        clear p0 p1 p2
        obtain ⟨W8, hW8⟩ : ∃ W8, W8 = w7.alloc (.cells #[.int .i64 x0, .int .i64 x1, .int .i64 x2, .int .i64 x3] 28) := ⟨_, rfl⟩
        have hbw := (Below.refl w7.heap.size w7).alloc (Nat.le_refl _) (.cells #[.int .i64 x0, .int .i64 x1, .int .i64 x2, .int .i64 x3] 28)
        rw [← hW8] at hbw
        have hA8 : AccAt W8 w7.heap.size x0 x1 x2 x3 := by rw [hW8]; exact AccAt.new _ _ _ _ _
        have hb8 := hb7.trans (hbw.mono hb7.size)
        obtain ⟨y0, y1, y2, y3⟩ := hA8.cells
        obtain ⟨z0, z1, z2, z3⟩ := (HA6.out.below hb8).cells
        have T8 := Lib.hid (T6.out.stay hb8)
        have hbz8 := hbz6.trans (hb8.mono hbz6.size)
        clear hA8 hb8 hbw HF6 T6 HA6 hb7
        go_upto_region 10 with fail
        rw [← hW8]; clear hW8
        rcases hrr with ⟨r0, r1⟩ | ⟨r0, r1⟩
        all_goals
          go_wp2_with fail
          refine (HA.out _ T8.out).mono ?_
          rintro e w9 ⟨rfl, hb9⟩
          go_wp2
          go_ret
          exact ⟨rfl, hbz8.trans (hb9.mono hbz8.size)⟩

end Go.Proofs.YtpejdbnphjheeaaDoor
