/-
  What is proved: the walk of the statement LeaveJoins: the call returns true. Conditions: the tables read as their texts lay them.
-/
import Derived.Test.YtpejdbnphjheeaaDoorLvY
namespace Go.Proofs.YtpejdbnphjheeaaDoor
open Go Go.RowKit Go.Proofs Go.Proofs.YtpejdbnphjheeaaDoor.Cv
set_option linter.unusedVariables false

theorem own_from {w : World} {base s : Nat} {e : TypeId} {v : Value} {n : Nat} {xs : List Value} (h : w.ownsRow base e s v n xs) : ∀ k, v.ownBlock = some k → base ≤ k := fun k hk => (h.lt k hk).1

set_option maxHeartbeats 8000000 in
set_option maxRecDepth 100000 in
theorem walkLeaveJoins (py pc px u : Int) (a : Option Addr) (n c : Nat) (f : Nat → Mv) (w : World) (hP : in64 py ∧ in64 pc ∧ in64 px) (hu : (Lit.int .i64 u).wf = true) (hM : MvArg w a n c f) (hT : Tab4 w) :
    Calls Tryd.prog 8 #[.agg #[.int .i64 py, .int .i64 pc, .int .i64 px], .int .i64 u, .slice a n c] w fun e w' => e = .returned (.bool true) ∧ Below w.heap.size w w' := by
  have hmv := hM.mv
  obtain ⟨-, hcp, h64, -⟩ := hM
  obtain ⟨W1, hW1⟩ : ∃ W1, W1 = w.alloc (.cells #[.int .i64 py, .int .i64 pc, .int .i64 px] 23) := ⟨_, rfl⟩
  have hb0 : Below w.heap.size w W1 := by rw [hW1]; exact (Below.refl w.heap.size w).alloc (Nat.le_refl _) _
  have hp : W1.heap[w.heap.size]? = some (.cells #[.int .i64 py, .int .i64 pc, .int .i64 px] 23 (0, 0)) := by rw [hW1]; exact heap_new _ _
  have T1 := Lib.hid (hT.stay hb0)
  have HA := Lib.hid awake_any
  have mixed : Tryd.prog.follows .mixedOrders = true := by kernel_rfl
  obtain ⟨D, hD⟩ : ∃ D : Nat → Int, D = fun j => (f j).1 := ⟨_, rfl⟩
  obtain ⟨G, hG⟩ : ∃ D : Nat → Int, D = fun j => (f j).2.1 := ⟨_, rfl⟩
  obtain ⟨T, hT'⟩ : ∃ D : Nat → Int, D = fun j => (f j).2.2 := ⟨_, rfl⟩
  have hG64 : ∀ j, j < n → in64 (G j) := fun j hj => by rw [hG]; exact (h64 j hj).2.1
  rw [← hD, ← hG, ← hT'] at hmv
  clear hD hG hT' hT hP h64 hu
  have key : ((n : Int) == 0) = true ∨ (((n : Int) == 0) = false ∧ decide ((100 : Int) < (n : Int)) = true) ∨ (((n : Int) == 0) = false ∧ decide ((100 : Int) < (n : Int)) = false) := by
    cases ((n : Int) == 0) <;> cases decide ((100 : Int) < (n : Int)) <;> simp
  rcases key with d0 | ⟨d0, d1⟩ | ⟨d0, d1⟩
  · go_enter Tryd.func8, Tryd.ntmps8
    go_wp2_with fail
    rw [← hW1]
    refine (HA.out _ T1.out).mono ?_
    rintro e w2 ⟨rfl, hb⟩
    go_wp2
    go_ret
    exact ⟨rfl, hb0.trans (hb.mono hb0.size)⟩
  · go_enter Tryd.func8, Tryd.ntmps8
    go_wp2_with fail
    rw [← hW1]
    refine (HA.out _ T1.out).mono ?_
    rintro e w2 ⟨rfl, hb⟩
    go_wp2
    go_ret
    exact ⟨rfl, hb0.trans (hb.mono hb0.size)⟩
  · have n2 : 1 ≤ n := by have := beq_eq_false_iff_ne.1 d0; omega
    have n100 : n ≤ 100 := by have := of_decide_eq_false d1; omega
    obtain ⟨k, hk, hkl⟩ : ∃ k : Nat, (n : Int).tdiv 2 = (k : Int) ∧ k < n := ⟨n / 2, by
      rw [Int.tdiv_eq_ediv_of_nonneg (by omega)]; omega, by omega⟩
    have w3 : IntKind.i64.wrap ((k : Int)) = (k : Int) := IntWalk.i64_in _ (by omega)
    have w4 : IntKind.i64.wrap ((k : Int) + 1) = (k : Int) + 1 := IntWalk.i64_in _ (by omega)
    rcases hmv with h | ⟨b, o, rfl, hc⟩
    · omega
    have hc1 := fun j hj => (fun h => ⟨stay hb0 h.1, stay hb0 h.2.1, stay hb0 h.2.2⟩ : _ → W1.cell? ⟨b, o + j * 3, none⟩ = some (.int .i64 (D j)) ∧ W1.cell? ⟨b, o + j * 3 + 1, none⟩ = some (.int .i64 (G j)) ∧ W1.cell? ⟨b, o + j * 3 + 2, none⟩ = some (.int .i64 (T j))) (hc j hj)
    clear hc
    have C := Lib.hid hc1
    obtain ⟨c0, c1, c2⟩ := hc1 k (by omega)
    clear hc1
    have i1 : (k : Int) < (n : Int) := by omega
    have i3 : (0 : Int) ≤ (k : Int) := by omega
    have hN2 := Lib.hid (And.intro n2 (And.intro n100 hkl))
    have HPL := Lib.hid hp
    have hGk := hG64 k hkl
    obtain ⟨W2, hW2⟩ : ∃ W2, W2 = W1.alloc (.cells #[.int .i64 (D k), .int .i64 (G k), .int .i64 (T k)] 42) := ⟨_, rfl⟩
    have hb1 : Below W1.heap.size W1 W2 := by rw [hW2]; exact (Below.refl _ _).alloc (Nat.le_refl _) _
    have hm : W2.heap[W1.heap.size]? = some (.cells #[.int .i64 (D k), .int .i64 (G k), .int .i64 (T k)] 42 (0, 0)) := by rw [hW2]; exact heap_new _ _
    have m0 : W2.cell? ⟨W1.heap.size, 0, none⟩ = some (.int .i64 (D k)) := cell_of hm 0 rfl
    have m1 : W2.cell? ⟨W1.heap.size, 1, none⟩ = some (.int .i64 (G k)) := cell_of hm 1 rfl
    have m2 : W2.cell? ⟨W1.heap.size, 2, none⟩ = some (.int .i64 (T k)) := cell_of hm 2 rfl
    have HMB := Lib.hid hm
    have hbr := hb0.trans (hb1.mono hb0.size)
    have T2 := Lib.hid (T1.out.stay hb1)
    clear hp hkl n2 n100 hG64 hm
    by_cases hg2 : G k < 2
    · have dg : decide (G k < 2) = true := decide_eq_true hg2
      clear HMB C HPL
      go_enter Tryd.func8, Tryd.ntmps8
      go_upto_region 4 with fail
      rw [← hW1]; clear hW1
      go_upto_region 5 with fail
      rw [← hW2]; clear hW2
      go_wp2_with fail
      refine (HA.out _ T2.out).mono ?_
      rintro e w2 ⟨rfl, hb⟩
      go_wp2
      go_ret
      exact ⟨rfl, hbr.trans (hb.mono hbr.size)⟩
    · have dg : decide (G k < 2) = false := decide_eq_false hg2
      have HJ := Lib.hid (joins_fold py pc px u (n := n) (k := k) (D := D) (G := G) (T := T) (by have := hN2.out; omega) hN2.out.2.2 (by omega))
      have HX := Lib.hid (j_cells (n := n) (k := k) (D := D) (G := G) (T := T) hN2.out.2.2)
      obtain ⟨h, hh⟩ : ∃ h, h = G k / 2 := ⟨_, rfl⟩
      unfold in64 at hGk
      have q0 : (G k).tdiv 2 = h := by rw [hh, Int.tdiv_eq_ediv_of_nonneg (by omega)]
      have q1 : IntKind.i64.wrap h = h := IntWalk.i64_in _ (by omega)
      have q2 : IntKind.i64.wrap (G k - h) = G k - h := IntWalk.i64_in _ (by omega)
      rw [← hh] at HJ HX
      have i5 : (k : Int) ≤ (c : Int) := by have := hN2.out; omega
      have i6 : (k : Int) + 1 ≤ (n : Int) := by omega
      have i7 : (0 : Int) ≤ (k : Int) + 1 := by omega
      have i8 : (n : Int) ≤ (c : Int) := by omega
      have hO : (W2.alloc (.cells #[] 42)).ownsRow W2.heap.size 42 3 (.slice (some ⟨W2.heap.size, 0, none⟩) 0 0) 0 [] := World.ownsRow_made W2 #[] 0 (Nat.le_refl _) (by unfold maxLen; omega) (by simp)
      have HO := Lib.hid hO
      have HCx := Lib.hid (fun W (hW : Below W2.heap.size W2 W) j hj => (fun h => ⟨stay hW (stay hb1 h.1), stay hW (stay hb1 h.2.1), stay hW (stay hb1 h.2.2)⟩ : _ → W.cell? ⟨b, o + j * 3, none⟩ = some (.int .i64 (D j)) ∧ W.cell? ⟨b, o + j * 3 + 1, none⟩ = some (.int .i64 (G j)) ∧ W.cell? ⟨b, o + j * 3 + 2, none⟩ = some (.int .i64 (T j))) (C.out j hj))
      have hbA := (Below.refl W2.heap.size W2).alloc (Nat.le_refl _) (.cells #[] 42)
      have HBA := Lib.hid hbA
      clear hO hbA hGk hg2 hh
      go_enter Tryd.func8, Tryd.ntmps8
      go_upto_region 4 with fail
      rw [← hW1]; clear hW1
      go_upto_region 5 with fail
      rw [← hW2]; clear hW2 c0 c1 c2
      go_upto_region 8 with (at_builtin; refine app_mv HO.out (fun j hj => HCx.out _ HBA.out j (by have := hN2.out; omega)) (by have := hN2.out; omega) (by simp) rfl _ _ rfl rfl rfl ?_; intro v' w3 ho hg; have HO3 := Lib.hid ho; have HG3 := Lib.hid hg; clear ho hg)
      have hb3 : Below W2.heap.size W2 w3 := HBA.out.grown HG3.out HBA.out.size (own_from HO.out)
      have n0 := stay hb3 m0
      have n1 := stay hb3 m1
      have n2 := stay hb3 m2
      clear HO HG3 HBA m0 m1 m2
      go_upto_region 9 with (at_builtin; refine app_arm Tryd.underlying25 infoMove rfl (by omega) (by omega) W2.heap.size w3 v' (0 + k) _ HO3.out 2 [.int .i64 (D k), .int .i64 h, .int .i64 0, .int .i64 (D k), .int .i64 (G k - h), .int .i64 (T k)] rfl (by intro v hv; simp at hv; rcases hv with rfl | rfl | rfl | rfl | rfl | rfl <;> rfl) (by have := hN2.out; omega) hb3.size rfl _ _ rfl rfl rfl ?_; intro v2 w4 ho hg; have HO4 := Lib.hid ho; have HG4 := Lib.hid hg; clear ho hg)
      have hb4a := hb3.alloc hb3.size (.cells #[.int .i64 (D k), .int .i64 h, .int .i64 0, .int .i64 (D k), .int .i64 (G k - h), .int .i64 (T k)] 42)
      have hb4 : Below W2.heap.size W2 w4 := hb4a.grown HG4.out hb4a.size (own_from HO3.out)
      have HB4 := Lib.hid hb4
      clear HG4 hb4a HO3 n0 n1 n2 hb3 hb4
      go_cut [9] (fun s9 wx => Hid (wx.ownsRow W2.heap.size 42 3 s9 (n + 1) (mvC (n + 1) (jD D k) (jG G k) (jT T k))) ∧ Hid (Below W2.heap.size W2 wx))
      case first =>
        by_cases hcm : c = k + 1
        · have hnk := Lib.hid (show n = k + 1 by have := hN2.out; omega)
          subst hcm
          go_wp2_with (at_builtin; refine app_mv (D := fun j => D (k + 1 + j)) (G := fun j => G (k + 1 + j)) (T := fun j => T (k + 1 + j)) HO4.out (fun j hj => by exfalso; have := hnk.out; omega) (by have := hN2.out; omega) HB4.out.size rfl _ _ rfl rfl rfl ?_; intro v3 w5 ho hg; have HO5 := Lib.hid ho; have HG5 := Lib.hid hg; clear ho hg)
          go_meet
          case rel => exact ⟨Lib.hid (by rw [HX.out, show n + 1 = 0 + k + 2 + 0 by have := hnk.out; omega, show n - (k + 1) = 0 by have := hnk.out; omega]; have := HO5.out; rwa [List.nil_append] at this), Lib.hid (HB4.out.grown HG5.out HB4.out.size (own_from HO4.out))⟩
        · go_wp2_with (at_builtin; refine app_mv (D := fun j => D (k + 1 + j)) (G := fun j => G (k + 1 + j)) (T := fun j => T (k + 1 + j)) HO4.out (fun j hj => by
            have := HCx.out _ HB4.out (k + 1 + j) (by omega)
            rw [show o + (k + 1 + j) * 3 = o + (k + 1) * 3 + j * 3 by omega] at this
            exact this) (by have := hN2.out; omega) HB4.out.size rfl _ _ rfl rfl rfl ?_; intro v3 w5 ho hg; have HO5 := Lib.hid ho; have HG5 := Lib.hid hg; clear ho hg)
          go_meet
          case rel => exact ⟨Lib.hid (by rw [HX.out, show n + 1 = 0 + k + 2 + (n - (k + 1)) by have := hN2.out; omega]; have := HO5.out; rwa [List.nil_append] at this), Lib.hid (HB4.out.grown HG5.out HB4.out.size (own_from HO4.out))⟩
      case rest =>
      obtain ⟨HO5, HB5⟩ := hcut
      clear HO4 HB4 HX
      obtain ⟨g1, cg1, rfl, hg1, hcg1, hR1⟩ := own_rowM HO5.out (by omega)
      have HR1 := Lib.hid hR1
      have HBw := HB5.out
      have hOw : (wc.alloc (.cells #[] 42)).ownsRow wc.heap.size 42 3 (.slice (some ⟨wc.heap.size, 0, none⟩) 0 0) 0 [] := World.ownsRow_made wc #[] 0 (Nat.le_refl _) (by unfold maxLen; omega) (by simp)
      have HOw := Lib.hid hOw
      have hbA := (Below.refl wc.heap.size wc).alloc (Nat.le_refl _) (.cells #[] 42)
      have HBA := Lib.hid hbA
      clear hOw hbA hR1 HO5 HBw
      go_upto_region 11 with (at_builtin; refine app_mv HOw.out (fun j hj => HCx.out _ (HB5.out.trans (HBA.out.mono HB5.out.size)) j hj) (by have := hN2.out; omega) (by simp) rfl _ _ rfl rfl rfl ?_; intro v6 w6 ho hg; have HO6 := Lib.hid ho; have HG6 := Lib.hid hg; clear ho hg)
      have hb6 : Below wc.heap.size wc w6 := HBA.out.grown HG6.out HBA.out.size (own_from HOw.out)
      obtain ⟨g2, cg2, rfl, hg2, hcg2, hR2⟩ := own_rowM (D := D) (G := G) (T := T) (by have := HO6.out; rwa [Nat.zero_add, List.nil_append] at this) (by have := hN2.out; omega)
      have HR2 := Lib.hid hR2
      have r1 := (hR2.2 k hN2.out.2.2).1.2.1
      have rf := (hR2.2 k hN2.out.2.2).2
      have hb26 := HB5.out.trans (hb6.mono HB5.out.size)
      have n1 : w6.cell? ⟨W1.heap.size, 1, none⟩ = some (.int .i64 (G k)) := stay hb26 (cell_of HMB.out 1 rfl : W2.cell? ⟨W1.heap.size, 1, none⟩ = some (.int .i64 (G k)))
      have HB6 := Lib.hid hb6
      clear hR2 HO6 HG6 HBA HOw hb26 hb6
      go_upto_region 12 with fail
      obtain ⟨W7, hW7⟩ : ∃ W7, W7 = w6.setCell ⟨g2, k * 3 + 1, none⟩ (.int .i64 h) := ⟨_, rfl⟩
      rw [← hW7]
      have hR7 : RowM W7 g2 n D (putA G k h) T := by rw [hW7]; exact HR2.out.storeG k h
      have hb7 : Below wc.heap.size wc W7 := by rw [hW7]; exact HB6.out.setCell (p := ⟨g2, k * 3 + 1, none⟩) hg2 _
      have HR7 := Lib.hid hR7
      have HM1 := Lib.hid (HR1.out.mv.below hb7 (Nat.le_refl _))
      have hb27 := HB5.out.trans (hb7.mono HB5.out.size)
      have hbz := hbr.trans (hb27.mono hbr.size)
      have T7 := Lib.hid (T2.out.stay hb27)
      have hb17 := hb1.trans (hb27.mono hb1.size)
      have hpl7 := (hb17.block _ (lt_of_at HPL.out)).trans HPL.out
      have HPL7 := Lib.hid hpl7
      have HM0 := Lib.hid (show MvIn W7 (some ⟨b, o, none⟩) n D G T from .inr ⟨b, o, rfl, HCx.out _ hb27⟩)
      have p0 : W7.cell? ⟨w.heap.size, 0, none⟩ = some (.int .i64 py) := cell_of hpl7 0 rfl
      have p1 : W7.cell? ⟨w.heap.size, 1, none⟩ = some (.int .i64 pc) := cell_of hpl7 1 rfl
      have p2 : W7.cell? ⟨w.heap.size, 2, none⟩ = some (.int .i64 px) := cell_of hpl7 2 rfl
      obtain ⟨x0, x1, x2, x3, r, y0, y1, y2, y3, r1', z0, z1, z2, z3, r2, F0, F1, F2, hrr⟩ := HJ.out
      have HF0 := Lib.hid (F0 W7 (some ⟨b, o, none⟩) c hcp HM0.out T7.out.1)
      have HF1 := Lib.hid F1
      have HF2 := Lib.hid F2
      clear hW7 hR7 hb7 hb27 hb17 hpl7 F0 F1 F2 HJ HCx HPL T2 HB5 HB6 HR1 HR2 r1 rf n1 HMB HM0 q0 q1 q2 C T1 hb0 hb1 hbr
      go_wp2_with fail
      refine (HF0.out).mono ?_
      rintro e w8 ⟨rfl, hb8⟩
      clear p0 p1 p2
      obtain ⟨W9, hW9⟩ : ∃ W9, W9 = w8.alloc (.cells #[.int .i64 x0, .int .i64 x1, .int .i64 x2, .int .i64 x3] 28) := ⟨_, rfl⟩
      have hbw := (Below.refl w8.heap.size w8).alloc (Nat.le_refl _) (.cells #[.int .i64 x0, .int .i64 x1, .int .i64 x2, .int .i64 x3] 28)
      rw [← hW9] at hbw
      have hA9 : AccAt W9 w8.heap.size x0 x1 x2 x3 := by rw [hW9]; exact AccAt.new _ _ _ _ _
      have hb9 := hb8.trans (hbw.mono hb8.size)
      have hpl9 := (hb9.block _ (lt_of_at HPL7.out)).trans HPL7.out
      have p0 : W9.cell? ⟨w.heap.size, 0, none⟩ = some (.int .i64 py) := cell_of hpl9 0 rfl
      have p1 : W9.cell? ⟨w.heap.size, 1, none⟩ = some (.int .i64 pc) := cell_of hpl9 1 rfl
      have p2 : W9.cell? ⟨w.heap.size, 2, none⟩ = some (.int .i64 px) := cell_of hpl9 2 rfl
      have T9 := Lib.hid (T7.out.stay hb9)
      have HA9 := Lib.hid hA9
      have HPL9 := Lib.hid hpl9
      have HF9 := Lib.hid (HF1.out W9 (some ⟨g1, 0, none⟩) cg1 hcg1 (HM1.out.below hb9 (Nat.le_refl _)) T9.out.1)
      have HM9 := Lib.hid (HR7.out.mv.below hb9 (Nat.le_refl _))
      have hbz9 := hbz.trans (hb9.mono hbz.size)
      clear hbw hA9 hb9 hb8 hpl9 HF0 HF1 HM1 HR7 T7 HPL7 hbz
      go_upto_region 13 with fail
      rw [← hW9]; clear hW9
      go_wp2_with fail
      refine (HF9.out).mono ?_
      rintro e wa ⟨rfl, hba⟩
      clear p0 p1 p2
      obtain ⟨Wb, hWb⟩ : ∃ Wb, Wb = wa.alloc (.cells #[.int .i64 y0, .int .i64 y1, .int .i64 y2, .int .i64 y3] 28) := ⟨_, rfl⟩
      have hbw := (Below.refl wa.heap.size wa).alloc (Nat.le_refl _) (.cells #[.int .i64 y0, .int .i64 y1, .int .i64 y2, .int .i64 y3] 28)
      rw [← hWb] at hbw
      have hAb : AccAt Wb wa.heap.size y0 y1 y2 y3 := by rw [hWb]; exact AccAt.new _ _ _ _ _
      have hbb := hba.trans (hbw.mono hba.size)
      have hplb := (hbb.block _ (lt_of_at HPL9.out)).trans HPL9.out
      have p0 : Wb.cell? ⟨w.heap.size, 0, none⟩ = some (.int .i64 py) := cell_of hplb 0 rfl
      have p1 : Wb.cell? ⟨w.heap.size, 1, none⟩ = some (.int .i64 pc) := cell_of hplb 1 rfl
      have p2 : Wb.cell? ⟨w.heap.size, 2, none⟩ = some (.int .i64 px) := cell_of hplb 2 rfl
      have Tb := Lib.hid (T9.out.stay hbb)
      have HAb := Lib.hid hAb
      have HA9b := Lib.hid (HA9.out.below hbb)
      have HFb := Lib.hid (HF2.out Wb (some ⟨g2, 0, none⟩) cg2 hcg2 (HM9.out.below hbb (Nat.le_refl _)) Tb.out.1)
      have hbzb := hbz9.trans (hbb.mono hbz9.size)
      clear hbw hAb hbb hba hplb HF9 HF2 HM9 T9 HPL9 hbz9 HA9
      go_upto_region 14 with fail
      rw [← hWb]; clear hWb
      go_wp2_with fail
      refine (HFb.out).mono ?_
      rintro e wc2 ⟨rfl, hbc⟩
      clear p0 p1 p2
      obtain ⟨Wd, hWd⟩ : ∃ Wd, Wd = wc2.alloc (.cells #[.int .i64 z0, .int .i64 z1, .int .i64 z2, .int .i64 z3] 28) := ⟨_, rfl⟩
      have hbw := (Below.refl wc2.heap.size wc2).alloc (Nat.le_refl _) (.cells #[.int .i64 z0, .int .i64 z1, .int .i64 z2, .int .i64 z3] 28)
      rw [← hWd] at hbw
      have hAd : AccAt Wd wc2.heap.size z0 z1 z2 z3 := by rw [hWd]; exact AccAt.new _ _ _ _ _
      have hbd := hbc.trans (hbw.mono hbc.size)
      obtain ⟨a0, a1, a2, a3⟩ := hAd.cells
      obtain ⟨c0, c1, c2, c3⟩ := (HA9b.out.below hbd).cells
      obtain ⟨e0, e1, e2, e3⟩ := (HAb.out.below hbd).cells
      have Td := Lib.hid (Tb.out.stay hbd)
      have hbzd := hbzb.trans (hbd.mono hbzb.size)
      clear hAd hbw hbd hbc HFb Tb HAb HA9b hbzb
      go_upto_region 15 with fail
      rw [← hWd]; clear hWd
      rcases hrr with r0 | ⟨r0, r1, r2e, rfl, rfl, rfl, rfl, l3, l2⟩
      · go_wp2_with fail
        refine (HA.out _ Td.out).mono ?_
        rintro e w9 ⟨rfl, hb9⟩
        go_wp2
        go_ret
        exact ⟨rfl, hbzd.trans (hb9.mono hbzd.size)⟩
      · go_wp2_with fail
        refine (HA.out _ Td.out).mono ?_
        rintro e w9 ⟨rfl, hb9⟩
        go_wp2
        go_ret
        exact ⟨rfl, hbzd.trans (hb9.mono hbzd.size)⟩

end Go.Proofs.YtpejdbnphjheeaaDoor
