/-
  What is proved: the contract of the document's Step: it is the program's. Conditions: the code is shorter than 2^62 bytes.
-/
import Derived.Test.YtibbgihcmcnamaaSoJ
namespace Go.Proofs.Ytibbgihcmcnamaa
open Go Go.RowKit Go.Lib Go.Proofs
open Ra (fitsB fitsB_iff)
set_option linter.unusedVariables false

theorem Rm4.kb {w w' : World} {g B : Nat} (h : Rm4 w g) (hg : g < B) (hb : Below B w w') : Rm4 w' g := by
  refine ⟨fun j hj => ?_, fun j => (hb.frozen (p := ⟨g, j, none⟩) hg).trans (h.2 j)⟩
  obtain ⟨v, hv⟩ := h.1 j hj
  exact ⟨v, (hb.cell (p := ⟨g, j, none⟩) hg).trans hv⟩

set_option maxHeartbeats 8000000 in
set_option maxRecDepth 100000 in
theorem rStep_any (a b c d : Int) (s : ByteArray) (x y z base : Int) (hs : s.size ≤ 4611686018427387904) (w : World) :
    Calls Try.prog 12 #[.agg #[.int .i64 a, .int .i64 b, .int .i64 c, .int .i64 d], .agg #[.string s, .int .i64 x, .int .i64 y, .int .i64 z], .int .i64 base] w fun e w' =>
      e = .returned (.tuple #[.agg #[.int .i64 (stepV a b c d (nameL s.data.toList) x y z base).1, .int .i64 (stepV a b c d (nameL s.data.toList) x y z base).2.1, .int .i64 (stepV a b c d (nameL s.data.toList) x y z base).2.2.1, .int .i64 (stepV a b c d (nameL s.data.toList) x y z base).2.2.2], .int .i64 (stepE a b c d (nameL s.data.toList) x y z base)]) ∧ Below w.heap.size w w' := by
  have HG := Lib.hid (fun W => rRight_any a b c d W)
  have HC := Lib.hid (fun W => rcheck_any s x y z hs W)
  have HF := Lib.hid (fun W => Ra.rfits2_any base W)
  have hE0 : chkE (rightS a b c d) (nameL s.data.toList) x y z ≠ 0 → stepE a b c d (nameL s.data.toList) x y z base = chkE (rightS a b c d) (nameL s.data.toList) x y z ∧ stepV a b c d (nameL s.data.toList) x y z base = (0, 0, 0, 0) := fun h => by
    have e : stepE a b c d (nameL s.data.toList) x y z base = chkE (rightS a b c d) (nameL s.data.toList) x y z := by unfold stepE; rw [if_neg h]
    exact ⟨e, by unfold stepV; rw [if_neg (by rw [e]; exact h)]⟩
  have hE1 : chkE (rightS a b c d) (nameL s.data.toList) x y z = 0 → fitsB base = false → stepE a b c d (nameL s.data.toList) x y z base = 2 ∧ stepV a b c d (nameL s.data.toList) x y z base = (0, 0, 0, 0) := fun h hf => by
    have e : stepE a b c d (nameL s.data.toList) x y z base = 2 := by unfold stepE; rw [if_pos h, if_neg (by rw [hf]; decide)]
    exact ⟨e, by unfold stepV; rw [if_neg (by rw [e]; decide)]⟩
  have hE2 := fun hc hf => @step_far a b c d (nameL s.data.toList) x y z base hc hf
  have hE3 := fun hc hf => @step_up a b c d (nameL s.data.toList) x y z base hc hf
  have hE4 := fun hc hf => @step_no a b c d (nameL s.data.toList) x y z base hc hf
  have hok := fun h => chk_ok (rt := rightS a b c d) (nm := nameL s.data.toList) (x := x) (y := y) (z := z) h
  rw [rightS_iff, partB_iff, partB_iff, fit0_iff] at hok
  rw [show chkE (rightS a b c d) (nameL s.data.toList) x y z = if rightS a b c d = true then schE (nameL s.data.toList) x y z else 2 from rfl] at hE0 hE1 hE2 hE3 hE4 hok
  generalize schE (nameL s.data.toList) x y z = ce at HC hE0 hE1 hE2 hE3 hE4 hok
  generalize stepV a b c d (nameL s.data.toList) x y z base = V at hE0 hE1 hE2 hE3 hE4 ⊢
  generalize stepE a b c d (nameL s.data.toList) x y z base = E at hE0 hE1 hE2 hE3 hE4 ⊢
  generalize rightS a b c d = rt at HG hE0 hE1 hE2 hE3 hE4 hok
  obtain ⟨W0, hW0⟩ : ∃ W0, W0 = ((w.alloc (.cells #[.int .i64 a, .int .i64 b, .int .i64 c, .int .i64 d] 32)).alloc (.cells #[.string s, .int .i64 x, .int .i64 y, .int .i64 z] 27)).alloc (.cells #[.int .i64 0, .int .i64 0, .int .i64 0, .int .i64 0] 32) := ⟨_, rfl⟩
  have hb3 : Below w.heap.size w W0 := by rw [hW0]; exact (((Below.refl w.heap.size w).alloc (Nat.le_refl _) _).alloc (by simp) _).alloc (by simp; omega) _
  have hsz : W0.heap.size = w.heap.size + 3 := by rw [hW0]; simp
  have z1 : (w.alloc (.cells #[.int .i64 a, .int .i64 b, .int .i64 c, .int .i64 d] 32)).heap.size = w.heap.size + 1 := by simp
  have z2 : ((w.alloc (.cells #[.int .i64 a, .int .i64 b, .int .i64 c, .int .i64 d] 32)).alloc (.cells #[.string s, .int .i64 x, .int .i64 y, .int .i64 z] 27)).heap.size = w.heap.size + 2 := by simp
  have h4 : C4 W0 w.heap.size a b c d := by
    rw [hW0]
    exact (C4.new w a b c d _).kp (((Below.refl _ _).alloc (Nat.le_refl _) _).alloc (by simp) _)
  have hS : Sc W0 (w.heap.size + 1) s x y z := by
    rw [hW0, ← z1]
    exact (Sc.new _ s x y z _).kp ((Below.refl _ _).alloc (Nat.le_refl _) _)
  have hR : Rm4 W0 (w.heap.size + 1 + 1) := by
    rw [hW0]
    have := Rm4.new ((w.alloc (.cells #[.int .i64 a, .int .i64 b, .int .i64 c, .int .i64 d] 32)).alloc (.cells #[.string s, .int .i64 x, .int .i64 y, .int .i64 z] 27)) (.int .i64 0) (.int .i64 0) (.int .i64 0) (.int .i64 0) 32
    rw [z2] at this
    exact this
  have KP : Hid (∀ w', Below (w.heap.size + 2) W0 w' → C4 w' w.heap.size a b c d ∧ Sc w' (w.heap.size + 1) s x y z) :=
    Lib.hid (fun w' h => ⟨h4.kb (by omega) h, hS.kb (by omega) h⟩)
  have hge : w.heap.size + 2 ≤ W0.heap.size := by omega
  clear z1 z2
  obtain ⟨c0, c1, c2, c3⟩ := h4
  obtain ⟨s0, s1, s2, s3⟩ := hS
  replace hE0 := Lib.hid hE0
  replace hE1 := Lib.hid hE1
  replace hE2 := Lib.hid hE2
  replace hE3 := Lib.hid hE3
  replace hE4 := Lib.hid hE4
  replace hok := Lib.hid hok
  go_enter Try.func12, Try.ntmps12
  go_upto_region 1 with fail
  rw [← hW0]
  clear hW0
  go_wp2_with fail
  refine (HG.out _).mono ?_
  rintro e w1 ⟨rfl, hb1⟩
  have hk1 : Below (w.heap.size + 2) W0 w1 := hb1.mono hge
  have hr1 : Rm4 w1 (w.heap.size + 1 + 1) := hR.below hb1
  clear c0 c1 c2 c3 s0 s1 s2 s3 hb1 hR
  obtain ⟨⟨c0, c1, c2, c3⟩, s0, s1, s2, s3⟩ := KP.out _ hk1
  obtain ⟨x0, x1, x2, x3, ⟨a0, a1, a2, a3⟩, b0, b1, b2, b3⟩ := hr1.all
  cases rt
  case false =>
    obtain ⟨hE', hV'⟩ := hE0.out (by simp)
    rw [if_neg (by simp)] at hE'
    subst hE' hV'
    clear hE0 hE1 hE2 hE3 hE4 hok KP
    have hT : C4 ((((w1.setCell ⟨w.heap.size + 1 + 1, 0, none⟩ (.int .i64 0)).setCell ⟨w.heap.size + 1 + 1, 1, none⟩ (.int .i64 0)).setCell ⟨w.heap.size + 1 + 1, 2, none⟩ (.int .i64 0)).setCell ⟨w.heap.size + 1 + 1, 3, none⟩ (.int .i64 0)) (w.heap.size + 1 + 1) ( 0) ( 0) ( 0) ( 0) := hr1.set _ _ _ _
    have hbF : Below (w.heap.size + 2) W0 ((((w1.setCell ⟨w.heap.size + 1 + 1, 0, none⟩ (.int .i64 0)).setCell ⟨w.heap.size + 1 + 1, 1, none⟩ (.int .i64 0)).setCell ⟨w.heap.size + 1 + 1, 2, none⟩ (.int .i64 0)).setCell ⟨w.heap.size + 1 + 1, 3, none⟩ (.int .i64 0)) := put4_below hk1 (Nat.le_refl _) _ _ _ _
    go_wp2
    generalize ((((w1.setCell ⟨w.heap.size + 1 + 1, 0, none⟩ (.int .i64 0)).setCell ⟨w.heap.size + 1 + 1, 1, none⟩ (.int .i64 0)).setCell ⟨w.heap.size + 1 + 1, 2, none⟩ (.int .i64 0)).setCell ⟨w.heap.size + 1 + 1, 3, none⟩ (.int .i64 0)) = WF at hT hbF ⊢
    obtain ⟨t0, t1, t2, t3⟩ := hT
    exact bodyPost_ret (v := .tuple #[.agg #[.int .i64 0, .int .i64 0, .int .i64 0, .int .i64 0], .int .i64 2]) (by simp [results, Try.results12, go_sem, t0, t1, t2, t3]) rfl ⟨rfl, hb3.trans (hbF.mono (by omega))⟩

  case true =>
    replace hE0 := Lib.hid (fun h => hE0.out (show (if true = true then ce else 2) ≠ 0 from h))
    replace hE1 := Lib.hid (fun h => hE1.out (show (if true = true then ce else 2) = 0 from h))
    replace hE2 := Lib.hid (fun h => hE2.out (show (if true = true then ce else 2) = 0 from h))
    replace hE3 := Lib.hid (fun h => hE3.out (show (if true = true then ce else 2) = 0 from h))
    replace hE4 := Lib.hid (fun h => hE4.out (show (if true = true then ce else 2) = 0 from h))
    replace hok := Lib.hid (fun h => hok.out (show (if true = true then ce else 2) = 0 from h))
    go_wp2_with fail
    refine (HC.out _).mono ?_
    rintro e w2 ⟨rfl, hb2⟩
    have hk2 : Below (w.heap.size + 2) W0 w2 := hk1.trans (hb2.mono (Nat.le_of_lt hr1.lt))
    have hr2 : Rm4 w2 (w.heap.size + 1 + 1) := hr1.below hb2
    clear c0 c1 c2 c3 s0 s1 s2 s3 hb2 hr1 hk1 a0 a1 a2 a3 b0 b1 b2 b3 x0 x1 x2 x3
    obtain ⟨⟨c0, c1, c2, c3⟩, s0, s1, s2, s3⟩ := KP.out _ hk2
    obtain ⟨x0, x1, x2, x3, ⟨a0, a1, a2, a3⟩, b0, b1, b2, b3⟩ := hr2.all
    by_cases h0 : ce = 0
    case neg =>
      have d0 : (ce != 0) = true := by simpa using h0
      obtain ⟨hE', hV'⟩ := hE0.out h0
      replace hE' : E = ce := by simpa using hE'
      subst hE' hV'
      clear h0 hE0 hE1 hE2 hE3 hE4 hok KP
      have hT : C4 ((((w2.setCell ⟨w.heap.size + 1 + 1, 0, none⟩ (.int .i64 0)).setCell ⟨w.heap.size + 1 + 1, 1, none⟩ (.int .i64 0)).setCell ⟨w.heap.size + 1 + 1, 2, none⟩ (.int .i64 0)).setCell ⟨w.heap.size + 1 + 1, 3, none⟩ (.int .i64 0)) (w.heap.size + 1 + 1) ( 0) ( 0) ( 0) ( 0) := hr2.set _ _ _ _
      have hbF : Below (w.heap.size + 2) W0 ((((w2.setCell ⟨w.heap.size + 1 + 1, 0, none⟩ (.int .i64 0)).setCell ⟨w.heap.size + 1 + 1, 1, none⟩ (.int .i64 0)).setCell ⟨w.heap.size + 1 + 1, 2, none⟩ (.int .i64 0)).setCell ⟨w.heap.size + 1 + 1, 3, none⟩ (.int .i64 0)) := put4_below hk2 (Nat.le_refl _) _ _ _ _
      go_wp2
      generalize ((((w2.setCell ⟨w.heap.size + 1 + 1, 0, none⟩ (.int .i64 0)).setCell ⟨w.heap.size + 1 + 1, 1, none⟩ (.int .i64 0)).setCell ⟨w.heap.size + 1 + 1, 2, none⟩ (.int .i64 0)).setCell ⟨w.heap.size + 1 + 1, 3, none⟩ (.int .i64 0)) = WF at hT hbF ⊢
      obtain ⟨t0, t1, t2, t3⟩ := hT
      exact bodyPost_ret (v := .tuple #[.agg #[.int .i64 0, .int .i64 0, .int .i64 0, .int .i64 0], .int .i64 E]) (by simp [results, Try.results12, go_sem, t0, t1, t2, t3]) rfl ⟨rfl, hb3.trans (hbF.mono (by omega))⟩

    case pos =>
      subst h0
      have hok' := hok.out rfl
      clear hok hE0
      go_wp2_with fail
      refine (HF.out _).mono ?_
      rintro e w3 ⟨rfl, rfl⟩
      by_cases hf : fitsB base = true
      case neg =>
        rw [Bool.not_eq_true] at hf
        obtain ⟨hE', hV'⟩ := hE1.out rfl hf
        subst hE' hV'
        rw [hf]
        clear hf hok' KP hE1 hE2 hE3 hE4
        have hT : C4 ((((w2.setCell ⟨w.heap.size + 1 + 1, 0, none⟩ (.int .i64 0)).setCell ⟨w.heap.size + 1 + 1, 1, none⟩ (.int .i64 0)).setCell ⟨w.heap.size + 1 + 1, 2, none⟩ (.int .i64 0)).setCell ⟨w.heap.size + 1 + 1, 3, none⟩ (.int .i64 0)) (w.heap.size + 1 + 1) ( 0) ( 0) ( 0) ( 0) := hr2.set _ _ _ _
        have hbF : Below (w.heap.size + 2) W0 ((((w2.setCell ⟨w.heap.size + 1 + 1, 0, none⟩ (.int .i64 0)).setCell ⟨w.heap.size + 1 + 1, 1, none⟩ (.int .i64 0)).setCell ⟨w.heap.size + 1 + 1, 2, none⟩ (.int .i64 0)).setCell ⟨w.heap.size + 1 + 1, 3, none⟩ (.int .i64 0)) := put4_below hk2 (Nat.le_refl _) _ _ _ _
        go_wp2
        generalize ((((w2.setCell ⟨w.heap.size + 1 + 1, 0, none⟩ (.int .i64 0)).setCell ⟨w.heap.size + 1 + 1, 1, none⟩ (.int .i64 0)).setCell ⟨w.heap.size + 1 + 1, 2, none⟩ (.int .i64 0)).setCell ⟨w.heap.size + 1 + 1, 3, none⟩ (.int .i64 0)) = WF at hT hbF ⊢
        obtain ⟨t0, t1, t2, t3⟩ := hT
        exact bodyPost_ret (v := .tuple #[.agg #[.int .i64 0, .int .i64 0, .int .i64 0, .int .i64 0], .int .i64 2]) (by simp [results, Try.results12, go_sem, t0, t1, t2, t3]) rfl ⟨rfl, hb3.trans (hbF.mono (by omega))⟩

      case pos =>
        obtain ⟨f0, f1⟩ := fitsB_iff.1 hf
        obtain ⟨⟨⟨r0, r1⟩, ⟨r2, r3⟩, ⟨r4, r5⟩, r6, r7⟩, -, ⟨p0, p1⟩, ⟨q0, q1⟩, o0, o1⟩ := hok'
        have hE2' := Lib.hid (hE2.out rfl hf)
        have hE3' := Lib.hid (hE3.out rfl hf)
        have hE4' := Lib.hid (hE4.out rfl hf)
        rw [hf]
        clear hf hE1 hE2 hE3 hE4
        have hgt := hr2.lt
        have hg0 : w.heap.size < w2.heap.size := by omega
        have hg1 : w.heap.size + 1 < w2.heap.size := by omega
        have hkn : Below (w.heap.size + 2) W0 (w2.alloc (.cells #[.int .i64 (a + base), .int .i64 b, .int .i64 c, .int .i64 d] 32)) := hk2.alloc (Nat.le_of_lt hgt) _
        have hrn : Rm4 (w2.alloc (.cells #[.int .i64 (a + base), .int .i64 b, .int .i64 c, .int .i64 d] 32)) (w.heap.size + 1 + 1) := hr2.below ((Below.refl _ _).alloc (Nat.le_refl _) _)
        have h9 : C4 (w2.alloc (.cells #[.int .i64 (a + base), .int .i64 b, .int .i64 c, .int .i64 d] 32)) w2.heap.size (a + base) b c d := C4.new w2 (a + base) b c d 32
        have hr9 : Rm4 (w2.alloc (.cells #[.int .i64 (a + base), .int .i64 b, .int .i64 c, .int .i64 d] 32)) w2.heap.size := Rm4.new _ _ _ _ _ _
        clear a0 a1 a2 a3 b0 b1 b2 b3 hr2 hk2
        go_upto_region 11 with fail
        generalize (w2.alloc (.cells #[.int .i64 (a + base), .int .i64 b, .int .i64 c, .int .i64 d] 32)) = w3 at hkn hrn h9 hr9 ⊢
        generalize w2.heap.size = g9 at h9 hr9 hgt ⊢
        have ht0 : -2251799813685248 ≤ a + base := by omega
        have ht1 : a + base ≤ 2251799813685248 := by omega
        generalize a + base = T at hE2' hE3' hE4' h9 ht0 ht1 ⊢
        clear c0 c1 c2 c3 s0 s1 s2 s3 x0 x1 x2 x3 hg0 hg1
        obtain ⟨⟨c0, c1, c2, c3⟩, s0, s1, s2, s3⟩ := KP.out _ hkn
        by_cases hz0 : 0 < z
        case pos =>
          by_cases hzt : z < T
          case pos =>
            have hU : upV T z = z := by unfold upV; rw [if_pos ⟨hz0, hzt⟩]
            rw [hU] at hE2' hE3' hE4'
            clear hU
            by_cases hub : b < z
            case neg =>
              have HE := Lib.hid (hE4'.out (by omega))
              have HRR := Lib.hid (fun W => rRight_any T b c d W)
              obtain ⟨k0, k1, k2, k3⟩ := h9
              clear hE2' hE3' hE4'
              have H9 : C4 w3 g9 T b c d := ⟨k0, k1, k2, k3⟩
              have HRM := hrn
              have HK := hkn
              go_wp2_with fail
              clear k0 k1 k2 k3 c0 c1 c2 c3 s0 s1 s2 s3
              refine (HRR.out _).mono ?_
              rintro e w8 ⟨rfl, hb8⟩
              have hk8 : Below (w.heap.size + 2) W0 w8 := HK.trans (hb8.mono (Nat.le_of_lt HRM.lt))
              have hr8 : Rm4 w8 (w.heap.size + 1 + 1) := HRM.below hb8
              obtain ⟨k0, k1, k2, k3⟩ := H9.kp hb8
              clear H9 HRM HK hb8 KP
              obtain ⟨x0, x1, x2, x3, ⟨a0, a1, a2, a3⟩, b0, b1, b2, b3⟩ := hr8.all
              by_cases hr : rightS T b c d = true
              case neg =>
                have hE9 := HE.out
                rw [if_neg hr, if_neg hr] at hE9
                obtain ⟨hE9, hV9⟩ := hE9
                subst hE9 hV9
                rw [Bool.not_eq_true] at hr
                rw [hr]
                clear hr HE HRR
                have hT : C4 ((((w8.setCell ⟨w.heap.size + 1 + 1, 0, none⟩ (.int .i64 0)).setCell ⟨w.heap.size + 1 + 1, 1, none⟩ (.int .i64 0)).setCell ⟨w.heap.size + 1 + 1, 2, none⟩ (.int .i64 0)).setCell ⟨w.heap.size + 1 + 1, 3, none⟩ (.int .i64 0)) (w.heap.size + 1 + 1) ( 0) ( 0) ( 0) ( 0) := hr8.set _ _ _ _
                have hbF : Below (w.heap.size + 2) W0 ((((w8.setCell ⟨w.heap.size + 1 + 1, 0, none⟩ (.int .i64 0)).setCell ⟨w.heap.size + 1 + 1, 1, none⟩ (.int .i64 0)).setCell ⟨w.heap.size + 1 + 1, 2, none⟩ (.int .i64 0)).setCell ⟨w.heap.size + 1 + 1, 3, none⟩ (.int .i64 0)) := put4_below hk8 (Nat.le_refl _) _ _ _ _
                go_wp2
                generalize ((((w8.setCell ⟨w.heap.size + 1 + 1, 0, none⟩ (.int .i64 0)).setCell ⟨w.heap.size + 1 + 1, 1, none⟩ (.int .i64 0)).setCell ⟨w.heap.size + 1 + 1, 2, none⟩ (.int .i64 0)).setCell ⟨w.heap.size + 1 + 1, 3, none⟩ (.int .i64 0)) = WF at hT hbF ⊢
                obtain ⟨t0, t1, t2, t3⟩ := hT
                exact bodyPost_ret (v := .tuple #[.agg #[.int .i64 0, .int .i64 0, .int .i64 0, .int .i64 0], .int .i64 9]) (by simp [results, Try.results12, go_sem, t0, t1, t2, t3]) rfl ⟨rfl, hb3.trans (hbF.mono (by omega))⟩
              case pos =>
                have hE9 := HE.out
                rw [if_pos hr, if_pos hr] at hE9
                obtain ⟨hE9, hV9⟩ := hE9
                subst hE9 hV9
                rw [hr]
                clear hr HE HRR
                have hT : C4 ((((w8.setCell ⟨w.heap.size + 1 + 1, 0, none⟩ (.int .i64 T)).setCell ⟨w.heap.size + 1 + 1, 1, none⟩ (.int .i64 b)).setCell ⟨w.heap.size + 1 + 1, 2, none⟩ (.int .i64 c)).setCell ⟨w.heap.size + 1 + 1, 3, none⟩ (.int .i64 d)) (w.heap.size + 1 + 1) ( T) ( b) ( c) ( d) := hr8.set _ _ _ _
                have hbF : Below (w.heap.size + 2) W0 ((((w8.setCell ⟨w.heap.size + 1 + 1, 0, none⟩ (.int .i64 T)).setCell ⟨w.heap.size + 1 + 1, 1, none⟩ (.int .i64 b)).setCell ⟨w.heap.size + 1 + 1, 2, none⟩ (.int .i64 c)).setCell ⟨w.heap.size + 1 + 1, 3, none⟩ (.int .i64 d)) := put4_below hk8 (Nat.le_refl _) _ _ _ _
                go_wp2
                generalize ((((w8.setCell ⟨w.heap.size + 1 + 1, 0, none⟩ (.int .i64 T)).setCell ⟨w.heap.size + 1 + 1, 1, none⟩ (.int .i64 b)).setCell ⟨w.heap.size + 1 + 1, 2, none⟩ (.int .i64 c)).setCell ⟨w.heap.size + 1 + 1, 3, none⟩ (.int .i64 d)) = WF at hT hbF ⊢
                obtain ⟨t0, t1, t2, t3⟩ := hT
                exact bodyPost_ret (v := .tuple #[.agg #[.int .i64 T, .int .i64 b, .int .i64 c, .int .i64 d], .int .i64 0]) (by simp [results, Try.results12, go_sem, t0, t1, t2, t3]) rfl ⟨rfl, hb3.trans (hbF.mono (by omega))⟩
            case pos =>
              have HE := Lib.hid (hE3'.out hub)
              have HW := Lib.hid (fun W => rOf2_any (z - b) x 1 W)
              have HX := Lib.hid (fun W => rOf2_any (z - b) y 1 W)
              rw [show (Ra.ofVE (z - b) x 1).1 = halfV (z - b) x from rfl] at HW
              rw [show (Ra.ofVE (z - b) y 1).1 = halfV (z - b) y from rfl] at HX
              have hbp := half_bd (z - b) x (by omega)
              have hbq := half_bd (z - b) y (by omega)
              generalize (Ra.ofVE (z - b) x 1).2 = e1 at HW hbp
              generalize (Ra.ofVE (z - b) y 1).2 = e2 at HX hbq
              generalize halfV (z - b) x = p at HW hbp HE
              generalize halfV (z - b) y = q at HX hbq HE
              replace hbp := Lib.hid hbp
              replace hbq := Lib.hid hbq
              clear hE4' hE3'
              obtain ⟨k0, k1, k2, k3⟩ := h9
              go_wp2_with fail
              refine (HW.out _).mono ?_
              rintro e w4 ⟨rfl, hb4⟩
              have hk4 : Below (w.heap.size + 2) W0 w4 := hkn.trans (hb4.mono (Nat.le_of_lt hrn.lt))
              have hr4 : Rm4 w4 (w.heap.size + 1 + 1) := hrn.below hb4
              have hs4 : Rm4 w4 g9 := hr9.below hb4
              have h94 : C4 w4 g9 T b c d := C4.kp ⟨k0, k1, k2, k3⟩ hb4
              clear k0 k1 k2 k3 c0 c1 c2 c3 s0 s1 s2 s3 hb4 hrn hkn hr9
              obtain ⟨⟨c0, c1, c2, c3⟩, s0, s1, s2, s3⟩ := KP.out _ hk4
              go_wp2_with fail
              refine (HX.out _).mono ?_
              rintro e w5 ⟨rfl, hb5⟩
              have hk5 : Below (w.heap.size + 2) W0 w5 := hk4.trans (hb5.mono (Nat.le_of_lt hr4.lt))
              have hr5 : Rm4 w5 (w.heap.size + 1 + 1) := hr4.below hb5
              have hs5 : Rm4 w5 g9 := hs4.below hb5
              have h95 := h94.kp hb5
              clear c0 c1 c2 c3 s0 s1 s2 s3 hb5 hr4 hk4 hs4 h94
              obtain ⟨⟨c0, c1, c2, c3⟩, s0, s1, s2, s3⟩ := KP.out _ hk5
              by_cases hfar : 1125899906842624 < z - b
              case pos =>
                exfalso; omega
              case neg =>
                obtain ⟨-, -, l0, l1⟩ := hbp.out (by omega) (partB_iff.2 ⟨p0, p1⟩)
                obtain ⟨-, -, l2, l3⟩ := hbq.out (by omega) (partB_iff.2 ⟨q0, q1⟩)
                have l4 : p ≤ 1125899906842624 := by omega
                have l5 : q ≤ 1125899906842624 := by omega
                have HRR := Lib.hid (fun W => rRight_any T z (c + p) (d + q) W)
                have HN : Below g9 w5 (((w5.setCell ⟨g9, 1, none⟩ (.int .i64 z)).setCell ⟨g9, 2, none⟩ (.int .i64 (c + p))).setCell ⟨g9, 3, none⟩ (.int .i64 (d + q))) := by
                  have n1 : Below g9 w5 (w5.setCell ⟨g9, 1, none⟩ (.int .i64 z)) := (Below.refl g9 w5).setCell (Nat.le_refl _) _
                  have n2 : Below g9 w5 ((w5.setCell ⟨g9, 1, none⟩ (.int .i64 z)).setCell ⟨g9, 2, none⟩ (.int .i64 (c + p))) := n1.setCell (Nat.le_refl _) _
                  exact n2.setCell (Nat.le_refl _) _
                have HK : Below (w.heap.size + 2) W0 (((w5.setCell ⟨g9, 1, none⟩ (.int .i64 z)).setCell ⟨g9, 2, none⟩ (.int .i64 (c + p))).setCell ⟨g9, 3, none⟩ (.int .i64 (d + q))) := hk5.trans (HN.mono (by omega))
                have HRM : Rm4 (((w5.setCell ⟨g9, 1, none⟩ (.int .i64 z)).setCell ⟨g9, 2, none⟩ (.int .i64 (c + p))).setCell ⟨g9, 3, none⟩ (.int .i64 (d + q))) (w.heap.size + 1 + 1) := hr5.kb hgt HN
                have H9 : C4 (((w5.setCell ⟨g9, 1, none⟩ (.int .i64 z)).setCell ⟨g9, 2, none⟩ (.int .i64 (c + p))).setCell ⟨g9, 3, none⟩ (.int .i64 (d + q))) g9 T z (c + p) (d + q) := by
                  obtain ⟨y0, y1, y2, y3⟩ := h95
                  exact ⟨(set_off (by omega)).trans ((set_off (by omega)).trans ((set_off (by omega)).trans y0)), (set_off (by omega)).trans ((set_off (by omega)).trans (set_in y1)), (set_off (by omega)).trans (set_in ((set_off (by omega)).trans y2)), set_in ((set_off (by omega)).trans ((set_off (by omega)).trans y3))⟩
                obtain ⟨x0, x1, x2, x3, ⟨a0, a1, a2, a3⟩, b0, b1, b2, b3⟩ := hs5.all
                obtain ⟨k0, k1, k2, k3⟩ := h95
                clear a0 a1 a2 a3 hbp hbq hE2' hr5 hk5 hs5 HN
                go_wp2_with fail
                generalize (((w5.setCell ⟨g9, 1, none⟩ (.int .i64 z)).setCell ⟨g9, 2, none⟩ (.int .i64 (c + p))).setCell ⟨g9, 3, none⟩ (.int .i64 (d + q))) = w6 at HK HRM H9 ⊢
                clear k0 k1 k2 k3 c0 c1 c2 c3 s0 s1 s2 s3 b0 b1 b2 b3
                refine (HRR.out _).mono ?_
                rintro e w8 ⟨rfl, hb8⟩
                have hk8 : Below (w.heap.size + 2) W0 w8 := HK.trans (hb8.mono (Nat.le_of_lt HRM.lt))
                have hr8 : Rm4 w8 (w.heap.size + 1 + 1) := HRM.below hb8
                obtain ⟨k0, k1, k2, k3⟩ := H9.kp hb8
                clear H9 HRM HK hb8 KP
                obtain ⟨x0, x1, x2, x3, ⟨a0, a1, a2, a3⟩, b0, b1, b2, b3⟩ := hr8.all
                by_cases hr : rightS T z (c + p) (d + q) = true
                case neg =>
                  have hE9 := HE.out
                  rw [if_neg hr, if_neg hr] at hE9
                  obtain ⟨hE9, hV9⟩ := hE9
                  subst hE9 hV9
                  rw [Bool.not_eq_true] at hr
                  rw [hr]
                  clear hr HE HRR
                  have hT : C4 ((((w8.setCell ⟨w.heap.size + 1 + 1, 0, none⟩ (.int .i64 0)).setCell ⟨w.heap.size + 1 + 1, 1, none⟩ (.int .i64 0)).setCell ⟨w.heap.size + 1 + 1, 2, none⟩ (.int .i64 0)).setCell ⟨w.heap.size + 1 + 1, 3, none⟩ (.int .i64 0)) (w.heap.size + 1 + 1) ( 0) ( 0) ( 0) ( 0) := hr8.set _ _ _ _
                  have hbF : Below (w.heap.size + 2) W0 ((((w8.setCell ⟨w.heap.size + 1 + 1, 0, none⟩ (.int .i64 0)).setCell ⟨w.heap.size + 1 + 1, 1, none⟩ (.int .i64 0)).setCell ⟨w.heap.size + 1 + 1, 2, none⟩ (.int .i64 0)).setCell ⟨w.heap.size + 1 + 1, 3, none⟩ (.int .i64 0)) := put4_below hk8 (Nat.le_refl _) _ _ _ _
                  go_wp2
                  generalize ((((w8.setCell ⟨w.heap.size + 1 + 1, 0, none⟩ (.int .i64 0)).setCell ⟨w.heap.size + 1 + 1, 1, none⟩ (.int .i64 0)).setCell ⟨w.heap.size + 1 + 1, 2, none⟩ (.int .i64 0)).setCell ⟨w.heap.size + 1 + 1, 3, none⟩ (.int .i64 0)) = WF at hT hbF ⊢
                  obtain ⟨t0, t1, t2, t3⟩ := hT
                  exact bodyPost_ret (v := .tuple #[.agg #[.int .i64 0, .int .i64 0, .int .i64 0, .int .i64 0], .int .i64 9]) (by simp [results, Try.results12, go_sem, t0, t1, t2, t3]) rfl ⟨rfl, hb3.trans (hbF.mono (by omega))⟩
                case pos =>
                  have hE9 := HE.out
                  rw [if_pos hr, if_pos hr] at hE9
                  obtain ⟨hE9, hV9⟩ := hE9
                  subst hE9 hV9
                  rw [hr]
                  clear hr HE HRR
                  have hT : C4 ((((w8.setCell ⟨w.heap.size + 1 + 1, 0, none⟩ (.int .i64 T)).setCell ⟨w.heap.size + 1 + 1, 1, none⟩ (.int .i64 z)).setCell ⟨w.heap.size + 1 + 1, 2, none⟩ (.int .i64 (c + p))).setCell ⟨w.heap.size + 1 + 1, 3, none⟩ (.int .i64 (d + q))) (w.heap.size + 1 + 1) ( T) ( z) ( (c + p)) ( (d + q)) := hr8.set _ _ _ _
                  have hbF : Below (w.heap.size + 2) W0 ((((w8.setCell ⟨w.heap.size + 1 + 1, 0, none⟩ (.int .i64 T)).setCell ⟨w.heap.size + 1 + 1, 1, none⟩ (.int .i64 z)).setCell ⟨w.heap.size + 1 + 1, 2, none⟩ (.int .i64 (c + p))).setCell ⟨w.heap.size + 1 + 1, 3, none⟩ (.int .i64 (d + q))) := put4_below hk8 (Nat.le_refl _) _ _ _ _
                  go_wp2
                  generalize ((((w8.setCell ⟨w.heap.size + 1 + 1, 0, none⟩ (.int .i64 T)).setCell ⟨w.heap.size + 1 + 1, 1, none⟩ (.int .i64 z)).setCell ⟨w.heap.size + 1 + 1, 2, none⟩ (.int .i64 (c + p))).setCell ⟨w.heap.size + 1 + 1, 3, none⟩ (.int .i64 (d + q))) = WF at hT hbF ⊢
                  obtain ⟨t0, t1, t2, t3⟩ := hT
                  exact bodyPost_ret (v := .tuple #[.agg #[.int .i64 T, .int .i64 z, .int .i64 (c + p), .int .i64 (d + q)], .int .i64 0]) (by simp [results, Try.results12, go_sem, t0, t1, t2, t3]) rfl ⟨rfl, hb3.trans (hbF.mono (by omega))⟩

          case neg =>
            have hU : upV T z = T := by unfold upV; rw [if_neg (fun h => hzt h.2)]
            rw [hU] at hE2' hE3' hE4'
            clear hU
            by_cases hub : b < T
            case neg =>
              have HE := Lib.hid (hE4'.out (by omega))
              have HRR := Lib.hid (fun W => rRight_any T b c d W)
              obtain ⟨k0, k1, k2, k3⟩ := h9
              clear hE2' hE3' hE4'
              have H9 : C4 w3 g9 T b c d := ⟨k0, k1, k2, k3⟩
              have HRM := hrn
              have HK := hkn
              go_wp2_with fail
              clear k0 k1 k2 k3 c0 c1 c2 c3 s0 s1 s2 s3
              refine (HRR.out _).mono ?_
              rintro e w8 ⟨rfl, hb8⟩
              have hk8 : Below (w.heap.size + 2) W0 w8 := HK.trans (hb8.mono (Nat.le_of_lt HRM.lt))
              have hr8 : Rm4 w8 (w.heap.size + 1 + 1) := HRM.below hb8
              obtain ⟨k0, k1, k2, k3⟩ := H9.kp hb8
              clear H9 HRM HK hb8 KP
              obtain ⟨x0, x1, x2, x3, ⟨a0, a1, a2, a3⟩, b0, b1, b2, b3⟩ := hr8.all
              by_cases hr : rightS T b c d = true
              case neg =>
                have hE9 := HE.out
                rw [if_neg hr, if_neg hr] at hE9
                obtain ⟨hE9, hV9⟩ := hE9
                subst hE9 hV9
                rw [Bool.not_eq_true] at hr
                rw [hr]
                clear hr HE HRR
                have hT : C4 ((((w8.setCell ⟨w.heap.size + 1 + 1, 0, none⟩ (.int .i64 0)).setCell ⟨w.heap.size + 1 + 1, 1, none⟩ (.int .i64 0)).setCell ⟨w.heap.size + 1 + 1, 2, none⟩ (.int .i64 0)).setCell ⟨w.heap.size + 1 + 1, 3, none⟩ (.int .i64 0)) (w.heap.size + 1 + 1) ( 0) ( 0) ( 0) ( 0) := hr8.set _ _ _ _
                have hbF : Below (w.heap.size + 2) W0 ((((w8.setCell ⟨w.heap.size + 1 + 1, 0, none⟩ (.int .i64 0)).setCell ⟨w.heap.size + 1 + 1, 1, none⟩ (.int .i64 0)).setCell ⟨w.heap.size + 1 + 1, 2, none⟩ (.int .i64 0)).setCell ⟨w.heap.size + 1 + 1, 3, none⟩ (.int .i64 0)) := put4_below hk8 (Nat.le_refl _) _ _ _ _
                go_wp2
                generalize ((((w8.setCell ⟨w.heap.size + 1 + 1, 0, none⟩ (.int .i64 0)).setCell ⟨w.heap.size + 1 + 1, 1, none⟩ (.int .i64 0)).setCell ⟨w.heap.size + 1 + 1, 2, none⟩ (.int .i64 0)).setCell ⟨w.heap.size + 1 + 1, 3, none⟩ (.int .i64 0)) = WF at hT hbF ⊢
                obtain ⟨t0, t1, t2, t3⟩ := hT
                exact bodyPost_ret (v := .tuple #[.agg #[.int .i64 0, .int .i64 0, .int .i64 0, .int .i64 0], .int .i64 9]) (by simp [results, Try.results12, go_sem, t0, t1, t2, t3]) rfl ⟨rfl, hb3.trans (hbF.mono (by omega))⟩
              case pos =>
                have hE9 := HE.out
                rw [if_pos hr, if_pos hr] at hE9
                obtain ⟨hE9, hV9⟩ := hE9
                subst hE9 hV9
                rw [hr]
                clear hr HE HRR
                have hT : C4 ((((w8.setCell ⟨w.heap.size + 1 + 1, 0, none⟩ (.int .i64 T)).setCell ⟨w.heap.size + 1 + 1, 1, none⟩ (.int .i64 b)).setCell ⟨w.heap.size + 1 + 1, 2, none⟩ (.int .i64 c)).setCell ⟨w.heap.size + 1 + 1, 3, none⟩ (.int .i64 d)) (w.heap.size + 1 + 1) ( T) ( b) ( c) ( d) := hr8.set _ _ _ _
                have hbF : Below (w.heap.size + 2) W0 ((((w8.setCell ⟨w.heap.size + 1 + 1, 0, none⟩ (.int .i64 T)).setCell ⟨w.heap.size + 1 + 1, 1, none⟩ (.int .i64 b)).setCell ⟨w.heap.size + 1 + 1, 2, none⟩ (.int .i64 c)).setCell ⟨w.heap.size + 1 + 1, 3, none⟩ (.int .i64 d)) := put4_below hk8 (Nat.le_refl _) _ _ _ _
                go_wp2
                generalize ((((w8.setCell ⟨w.heap.size + 1 + 1, 0, none⟩ (.int .i64 T)).setCell ⟨w.heap.size + 1 + 1, 1, none⟩ (.int .i64 b)).setCell ⟨w.heap.size + 1 + 1, 2, none⟩ (.int .i64 c)).setCell ⟨w.heap.size + 1 + 1, 3, none⟩ (.int .i64 d)) = WF at hT hbF ⊢
                obtain ⟨t0, t1, t2, t3⟩ := hT
                exact bodyPost_ret (v := .tuple #[.agg #[.int .i64 T, .int .i64 b, .int .i64 c, .int .i64 d], .int .i64 0]) (by simp [results, Try.results12, go_sem, t0, t1, t2, t3]) rfl ⟨rfl, hb3.trans (hbF.mono (by omega))⟩
            case pos =>
              have HE := Lib.hid (hE3'.out hub)
              have HW := Lib.hid (fun W => rOf2_any (T - b) x 1 W)
              have HX := Lib.hid (fun W => rOf2_any (T - b) y 1 W)
              rw [show (Ra.ofVE (T - b) x 1).1 = halfV (T - b) x from rfl] at HW
              rw [show (Ra.ofVE (T - b) y 1).1 = halfV (T - b) y from rfl] at HX
              have hbp := half_bd (T - b) x (by omega)
              have hbq := half_bd (T - b) y (by omega)
              generalize (Ra.ofVE (T - b) x 1).2 = e1 at HW hbp
              generalize (Ra.ofVE (T - b) y 1).2 = e2 at HX hbq
              generalize halfV (T - b) x = p at HW hbp HE
              generalize halfV (T - b) y = q at HX hbq HE
              replace hbp := Lib.hid hbp
              replace hbq := Lib.hid hbq
              clear hE4' hE3'
              obtain ⟨k0, k1, k2, k3⟩ := h9
              go_wp2_with fail
              refine (HW.out _).mono ?_
              rintro e w4 ⟨rfl, hb4⟩
              have hk4 : Below (w.heap.size + 2) W0 w4 := hkn.trans (hb4.mono (Nat.le_of_lt hrn.lt))
              have hr4 : Rm4 w4 (w.heap.size + 1 + 1) := hrn.below hb4
              have hs4 : Rm4 w4 g9 := hr9.below hb4
              have h94 : C4 w4 g9 T b c d := C4.kp ⟨k0, k1, k2, k3⟩ hb4
              clear k0 k1 k2 k3 c0 c1 c2 c3 s0 s1 s2 s3 hb4 hrn hkn hr9
              obtain ⟨⟨c0, c1, c2, c3⟩, s0, s1, s2, s3⟩ := KP.out _ hk4
              go_wp2_with fail
              refine (HX.out _).mono ?_
              rintro e w5 ⟨rfl, hb5⟩
              have hk5 : Below (w.heap.size + 2) W0 w5 := hk4.trans (hb5.mono (Nat.le_of_lt hr4.lt))
              have hr5 : Rm4 w5 (w.heap.size + 1 + 1) := hr4.below hb5
              have hs5 : Rm4 w5 g9 := hs4.below hb5
              have h95 := h94.kp hb5
              clear c0 c1 c2 c3 s0 s1 s2 s3 hb5 hr4 hk4 hs4 h94
              obtain ⟨⟨c0, c1, c2, c3⟩, s0, s1, s2, s3⟩ := KP.out _ hk5
              by_cases hfar : 1125899906842624 < T - b
              case pos =>
                exfalso; omega
              case neg =>
                obtain ⟨-, -, l0, l1⟩ := hbp.out (by omega) (partB_iff.2 ⟨p0, p1⟩)
                obtain ⟨-, -, l2, l3⟩ := hbq.out (by omega) (partB_iff.2 ⟨q0, q1⟩)
                have l4 : p ≤ 1125899906842624 := by omega
                have l5 : q ≤ 1125899906842624 := by omega
                have HRR := Lib.hid (fun W => rRight_any T T (c + p) (d + q) W)
                have HN : Below g9 w5 (((w5.setCell ⟨g9, 1, none⟩ (.int .i64 T)).setCell ⟨g9, 2, none⟩ (.int .i64 (c + p))).setCell ⟨g9, 3, none⟩ (.int .i64 (d + q))) := by
                  have n1 : Below g9 w5 (w5.setCell ⟨g9, 1, none⟩ (.int .i64 T)) := (Below.refl g9 w5).setCell (Nat.le_refl _) _
                  have n2 : Below g9 w5 ((w5.setCell ⟨g9, 1, none⟩ (.int .i64 T)).setCell ⟨g9, 2, none⟩ (.int .i64 (c + p))) := n1.setCell (Nat.le_refl _) _
                  exact n2.setCell (Nat.le_refl _) _
                have HK : Below (w.heap.size + 2) W0 (((w5.setCell ⟨g9, 1, none⟩ (.int .i64 T)).setCell ⟨g9, 2, none⟩ (.int .i64 (c + p))).setCell ⟨g9, 3, none⟩ (.int .i64 (d + q))) := hk5.trans (HN.mono (by omega))
                have HRM : Rm4 (((w5.setCell ⟨g9, 1, none⟩ (.int .i64 T)).setCell ⟨g9, 2, none⟩ (.int .i64 (c + p))).setCell ⟨g9, 3, none⟩ (.int .i64 (d + q))) (w.heap.size + 1 + 1) := hr5.kb hgt HN
                have H9 : C4 (((w5.setCell ⟨g9, 1, none⟩ (.int .i64 T)).setCell ⟨g9, 2, none⟩ (.int .i64 (c + p))).setCell ⟨g9, 3, none⟩ (.int .i64 (d + q))) g9 T T (c + p) (d + q) := by
                  obtain ⟨y0, y1, y2, y3⟩ := h95
                  exact ⟨(set_off (by omega)).trans ((set_off (by omega)).trans ((set_off (by omega)).trans y0)), (set_off (by omega)).trans ((set_off (by omega)).trans (set_in y1)), (set_off (by omega)).trans (set_in ((set_off (by omega)).trans y2)), set_in ((set_off (by omega)).trans ((set_off (by omega)).trans y3))⟩
                obtain ⟨x0, x1, x2, x3, ⟨a0, a1, a2, a3⟩, b0, b1, b2, b3⟩ := hs5.all
                obtain ⟨k0, k1, k2, k3⟩ := h95
                clear a0 a1 a2 a3 hbp hbq hE2' hr5 hk5 hs5 HN
                go_wp2_with fail
                generalize (((w5.setCell ⟨g9, 1, none⟩ (.int .i64 T)).setCell ⟨g9, 2, none⟩ (.int .i64 (c + p))).setCell ⟨g9, 3, none⟩ (.int .i64 (d + q))) = w6 at HK HRM H9 ⊢
                clear k0 k1 k2 k3 c0 c1 c2 c3 s0 s1 s2 s3 b0 b1 b2 b3
                refine (HRR.out _).mono ?_
                rintro e w8 ⟨rfl, hb8⟩
                have hk8 : Below (w.heap.size + 2) W0 w8 := HK.trans (hb8.mono (Nat.le_of_lt HRM.lt))
                have hr8 : Rm4 w8 (w.heap.size + 1 + 1) := HRM.below hb8
                obtain ⟨k0, k1, k2, k3⟩ := H9.kp hb8
                clear H9 HRM HK hb8 KP
                obtain ⟨x0, x1, x2, x3, ⟨a0, a1, a2, a3⟩, b0, b1, b2, b3⟩ := hr8.all
                by_cases hr : rightS T T (c + p) (d + q) = true
                case neg =>
                  have hE9 := HE.out
                  rw [if_neg hr, if_neg hr] at hE9
                  obtain ⟨hE9, hV9⟩ := hE9
                  subst hE9 hV9
                  rw [Bool.not_eq_true] at hr
                  rw [hr]
                  clear hr HE HRR
                  have hT : C4 ((((w8.setCell ⟨w.heap.size + 1 + 1, 0, none⟩ (.int .i64 0)).setCell ⟨w.heap.size + 1 + 1, 1, none⟩ (.int .i64 0)).setCell ⟨w.heap.size + 1 + 1, 2, none⟩ (.int .i64 0)).setCell ⟨w.heap.size + 1 + 1, 3, none⟩ (.int .i64 0)) (w.heap.size + 1 + 1) ( 0) ( 0) ( 0) ( 0) := hr8.set _ _ _ _
                  have hbF : Below (w.heap.size + 2) W0 ((((w8.setCell ⟨w.heap.size + 1 + 1, 0, none⟩ (.int .i64 0)).setCell ⟨w.heap.size + 1 + 1, 1, none⟩ (.int .i64 0)).setCell ⟨w.heap.size + 1 + 1, 2, none⟩ (.int .i64 0)).setCell ⟨w.heap.size + 1 + 1, 3, none⟩ (.int .i64 0)) := put4_below hk8 (Nat.le_refl _) _ _ _ _
                  go_wp2
                  generalize ((((w8.setCell ⟨w.heap.size + 1 + 1, 0, none⟩ (.int .i64 0)).setCell ⟨w.heap.size + 1 + 1, 1, none⟩ (.int .i64 0)).setCell ⟨w.heap.size + 1 + 1, 2, none⟩ (.int .i64 0)).setCell ⟨w.heap.size + 1 + 1, 3, none⟩ (.int .i64 0)) = WF at hT hbF ⊢
                  obtain ⟨t0, t1, t2, t3⟩ := hT
                  exact bodyPost_ret (v := .tuple #[.agg #[.int .i64 0, .int .i64 0, .int .i64 0, .int .i64 0], .int .i64 9]) (by simp [results, Try.results12, go_sem, t0, t1, t2, t3]) rfl ⟨rfl, hb3.trans (hbF.mono (by omega))⟩
                case pos =>
                  have hE9 := HE.out
                  rw [if_pos hr, if_pos hr] at hE9
                  obtain ⟨hE9, hV9⟩ := hE9
                  subst hE9 hV9
                  rw [hr]
                  clear hr HE HRR
                  have hT : C4 ((((w8.setCell ⟨w.heap.size + 1 + 1, 0, none⟩ (.int .i64 T)).setCell ⟨w.heap.size + 1 + 1, 1, none⟩ (.int .i64 T)).setCell ⟨w.heap.size + 1 + 1, 2, none⟩ (.int .i64 (c + p))).setCell ⟨w.heap.size + 1 + 1, 3, none⟩ (.int .i64 (d + q))) (w.heap.size + 1 + 1) ( T) ( T) ( (c + p)) ( (d + q)) := hr8.set _ _ _ _
                  have hbF : Below (w.heap.size + 2) W0 ((((w8.setCell ⟨w.heap.size + 1 + 1, 0, none⟩ (.int .i64 T)).setCell ⟨w.heap.size + 1 + 1, 1, none⟩ (.int .i64 T)).setCell ⟨w.heap.size + 1 + 1, 2, none⟩ (.int .i64 (c + p))).setCell ⟨w.heap.size + 1 + 1, 3, none⟩ (.int .i64 (d + q))) := put4_below hk8 (Nat.le_refl _) _ _ _ _
                  go_wp2
                  generalize ((((w8.setCell ⟨w.heap.size + 1 + 1, 0, none⟩ (.int .i64 T)).setCell ⟨w.heap.size + 1 + 1, 1, none⟩ (.int .i64 T)).setCell ⟨w.heap.size + 1 + 1, 2, none⟩ (.int .i64 (c + p))).setCell ⟨w.heap.size + 1 + 1, 3, none⟩ (.int .i64 (d + q))) = WF at hT hbF ⊢
                  obtain ⟨t0, t1, t2, t3⟩ := hT
                  exact bodyPost_ret (v := .tuple #[.agg #[.int .i64 T, .int .i64 T, .int .i64 (c + p), .int .i64 (d + q)], .int .i64 0]) (by simp [results, Try.results12, go_sem, t0, t1, t2, t3]) rfl ⟨rfl, hb3.trans (hbF.mono (by omega))⟩

        case neg =>
          have dz : decide (0 < z) = false := decide_eq_false hz0
          have hU : upV T z = T := by unfold upV; rw [if_neg (fun h => hz0 h.1)]
          rw [hU] at hE2' hE3' hE4'
          clear hU
          by_cases hub : b < T
          case neg =>
            have HE := Lib.hid (hE4'.out (by omega))
            have HRR := Lib.hid (fun W => rRight_any T b c d W)
            obtain ⟨k0, k1, k2, k3⟩ := h9
            clear hE2' hE3' hE4'
            have H9 : C4 w3 g9 T b c d := ⟨k0, k1, k2, k3⟩
            have HRM := hrn
            have HK := hkn
            go_wp2_with fail
            clear k0 k1 k2 k3 c0 c1 c2 c3 s0 s1 s2 s3
            refine (HRR.out _).mono ?_
            rintro e w8 ⟨rfl, hb8⟩
            have hk8 : Below (w.heap.size + 2) W0 w8 := HK.trans (hb8.mono (Nat.le_of_lt HRM.lt))
            have hr8 : Rm4 w8 (w.heap.size + 1 + 1) := HRM.below hb8
            obtain ⟨k0, k1, k2, k3⟩ := H9.kp hb8
            clear H9 HRM HK hb8 KP
            obtain ⟨x0, x1, x2, x3, ⟨a0, a1, a2, a3⟩, b0, b1, b2, b3⟩ := hr8.all
            by_cases hr : rightS T b c d = true
            case neg =>
              have hE9 := HE.out
              rw [if_neg hr, if_neg hr] at hE9
              obtain ⟨hE9, hV9⟩ := hE9
              subst hE9 hV9
              rw [Bool.not_eq_true] at hr
              rw [hr]
              clear hr HE HRR
              have hT : C4 ((((w8.setCell ⟨w.heap.size + 1 + 1, 0, none⟩ (.int .i64 0)).setCell ⟨w.heap.size + 1 + 1, 1, none⟩ (.int .i64 0)).setCell ⟨w.heap.size + 1 + 1, 2, none⟩ (.int .i64 0)).setCell ⟨w.heap.size + 1 + 1, 3, none⟩ (.int .i64 0)) (w.heap.size + 1 + 1) ( 0) ( 0) ( 0) ( 0) := hr8.set _ _ _ _
              have hbF : Below (w.heap.size + 2) W0 ((((w8.setCell ⟨w.heap.size + 1 + 1, 0, none⟩ (.int .i64 0)).setCell ⟨w.heap.size + 1 + 1, 1, none⟩ (.int .i64 0)).setCell ⟨w.heap.size + 1 + 1, 2, none⟩ (.int .i64 0)).setCell ⟨w.heap.size + 1 + 1, 3, none⟩ (.int .i64 0)) := put4_below hk8 (Nat.le_refl _) _ _ _ _
              go_wp2
              generalize ((((w8.setCell ⟨w.heap.size + 1 + 1, 0, none⟩ (.int .i64 0)).setCell ⟨w.heap.size + 1 + 1, 1, none⟩ (.int .i64 0)).setCell ⟨w.heap.size + 1 + 1, 2, none⟩ (.int .i64 0)).setCell ⟨w.heap.size + 1 + 1, 3, none⟩ (.int .i64 0)) = WF at hT hbF ⊢
              obtain ⟨t0, t1, t2, t3⟩ := hT
              exact bodyPost_ret (v := .tuple #[.agg #[.int .i64 0, .int .i64 0, .int .i64 0, .int .i64 0], .int .i64 9]) (by simp [results, Try.results12, go_sem, t0, t1, t2, t3]) rfl ⟨rfl, hb3.trans (hbF.mono (by omega))⟩
            case pos =>
              have hE9 := HE.out
              rw [if_pos hr, if_pos hr] at hE9
              obtain ⟨hE9, hV9⟩ := hE9
              subst hE9 hV9
              rw [hr]
              clear hr HE HRR
              have hT : C4 ((((w8.setCell ⟨w.heap.size + 1 + 1, 0, none⟩ (.int .i64 T)).setCell ⟨w.heap.size + 1 + 1, 1, none⟩ (.int .i64 b)).setCell ⟨w.heap.size + 1 + 1, 2, none⟩ (.int .i64 c)).setCell ⟨w.heap.size + 1 + 1, 3, none⟩ (.int .i64 d)) (w.heap.size + 1 + 1) ( T) ( b) ( c) ( d) := hr8.set _ _ _ _
              have hbF : Below (w.heap.size + 2) W0 ((((w8.setCell ⟨w.heap.size + 1 + 1, 0, none⟩ (.int .i64 T)).setCell ⟨w.heap.size + 1 + 1, 1, none⟩ (.int .i64 b)).setCell ⟨w.heap.size + 1 + 1, 2, none⟩ (.int .i64 c)).setCell ⟨w.heap.size + 1 + 1, 3, none⟩ (.int .i64 d)) := put4_below hk8 (Nat.le_refl _) _ _ _ _
              go_wp2
              generalize ((((w8.setCell ⟨w.heap.size + 1 + 1, 0, none⟩ (.int .i64 T)).setCell ⟨w.heap.size + 1 + 1, 1, none⟩ (.int .i64 b)).setCell ⟨w.heap.size + 1 + 1, 2, none⟩ (.int .i64 c)).setCell ⟨w.heap.size + 1 + 1, 3, none⟩ (.int .i64 d)) = WF at hT hbF ⊢
              obtain ⟨t0, t1, t2, t3⟩ := hT
              exact bodyPost_ret (v := .tuple #[.agg #[.int .i64 T, .int .i64 b, .int .i64 c, .int .i64 d], .int .i64 0]) (by simp [results, Try.results12, go_sem, t0, t1, t2, t3]) rfl ⟨rfl, hb3.trans (hbF.mono (by omega))⟩
          case pos =>
            have HE := Lib.hid (hE3'.out hub)
            have HW := Lib.hid (fun W => rOf2_any (T - b) x 1 W)
            have HX := Lib.hid (fun W => rOf2_any (T - b) y 1 W)
            rw [show (Ra.ofVE (T - b) x 1).1 = halfV (T - b) x from rfl] at HW
            rw [show (Ra.ofVE (T - b) y 1).1 = halfV (T - b) y from rfl] at HX
            have hbp := half_bd (T - b) x (by omega)
            have hbq := half_bd (T - b) y (by omega)
            generalize (Ra.ofVE (T - b) x 1).2 = e1 at HW hbp
            generalize (Ra.ofVE (T - b) y 1).2 = e2 at HX hbq
            generalize halfV (T - b) x = p at HW hbp HE
            generalize halfV (T - b) y = q at HX hbq HE
            replace hbp := Lib.hid hbp
            replace hbq := Lib.hid hbq
            clear hE4' hE3'
            obtain ⟨k0, k1, k2, k3⟩ := h9
            go_wp2_with fail
            refine (HW.out _).mono ?_
            rintro e w4 ⟨rfl, hb4⟩
            have hk4 : Below (w.heap.size + 2) W0 w4 := hkn.trans (hb4.mono (Nat.le_of_lt hrn.lt))
            have hr4 : Rm4 w4 (w.heap.size + 1 + 1) := hrn.below hb4
            have hs4 : Rm4 w4 g9 := hr9.below hb4
            have h94 : C4 w4 g9 T b c d := C4.kp ⟨k0, k1, k2, k3⟩ hb4
            clear k0 k1 k2 k3 c0 c1 c2 c3 s0 s1 s2 s3 hb4 hrn hkn hr9
            obtain ⟨⟨c0, c1, c2, c3⟩, s0, s1, s2, s3⟩ := KP.out _ hk4
            go_wp2_with fail
            refine (HX.out _).mono ?_
            rintro e w5 ⟨rfl, hb5⟩
            have hk5 : Below (w.heap.size + 2) W0 w5 := hk4.trans (hb5.mono (Nat.le_of_lt hr4.lt))
            have hr5 : Rm4 w5 (w.heap.size + 1 + 1) := hr4.below hb5
            have hs5 : Rm4 w5 g9 := hs4.below hb5
            have h95 := h94.kp hb5
            clear c0 c1 c2 c3 s0 s1 s2 s3 hb5 hr4 hk4 hs4 h94
            obtain ⟨⟨c0, c1, c2, c3⟩, s0, s1, s2, s3⟩ := KP.out _ hk5
            by_cases hfar : 1125899906842624 < T - b
            case pos =>
              have hE9 := hE2'.out hfar
              subst hE9
              have hV9 : V = (0, 0, 0, 0) := by
                have h := HE.out
                by_cases hq9 : rightS T T (c + p) (d + q) = true
                · rw [if_pos hq9] at h; exact absurd h.1 (by decide)
                · rw [if_neg hq9, if_neg hq9] at h; exact h.2
              subst hV9
              obtain ⟨x0, x1, x2, x3, ⟨a0, a1, a2, a3⟩, b0, b1, b2, b3⟩ := hr5.all
              clear hE2' HE KP h95 hs5
              have hT : C4 ((((w5.setCell ⟨w.heap.size + 1 + 1, 0, none⟩ (.int .i64 0)).setCell ⟨w.heap.size + 1 + 1, 1, none⟩ (.int .i64 0)).setCell ⟨w.heap.size + 1 + 1, 2, none⟩ (.int .i64 0)).setCell ⟨w.heap.size + 1 + 1, 3, none⟩ (.int .i64 0)) (w.heap.size + 1 + 1) ( 0) ( 0) ( 0) ( 0) := hr5.set _ _ _ _
              have hbF : Below (w.heap.size + 2) W0 ((((w5.setCell ⟨w.heap.size + 1 + 1, 0, none⟩ (.int .i64 0)).setCell ⟨w.heap.size + 1 + 1, 1, none⟩ (.int .i64 0)).setCell ⟨w.heap.size + 1 + 1, 2, none⟩ (.int .i64 0)).setCell ⟨w.heap.size + 1 + 1, 3, none⟩ (.int .i64 0)) := put4_below hk5 (Nat.le_refl _) _ _ _ _
              go_wp2
              generalize ((((w5.setCell ⟨w.heap.size + 1 + 1, 0, none⟩ (.int .i64 0)).setCell ⟨w.heap.size + 1 + 1, 1, none⟩ (.int .i64 0)).setCell ⟨w.heap.size + 1 + 1, 2, none⟩ (.int .i64 0)).setCell ⟨w.heap.size + 1 + 1, 3, none⟩ (.int .i64 0)) = WF at hT hbF ⊢
              obtain ⟨t0, t1, t2, t3⟩ := hT
              exact bodyPost_ret (v := .tuple #[.agg #[.int .i64 0, .int .i64 0, .int .i64 0, .int .i64 0], .int .i64 9]) (by simp [results, Try.results12, go_sem, t0, t1, t2, t3]) rfl ⟨rfl, hb3.trans (hbF.mono (by omega))⟩
            case neg =>
              obtain ⟨-, -, l0, l1⟩ := hbp.out (by omega) (partB_iff.2 ⟨p0, p1⟩)
              obtain ⟨-, -, l2, l3⟩ := hbq.out (by omega) (partB_iff.2 ⟨q0, q1⟩)
              have l4 : p ≤ 1125899906842624 := by omega
              have l5 : q ≤ 1125899906842624 := by omega
              have HRR := Lib.hid (fun W => rRight_any T T (c + p) (d + q) W)
              have HN : Below g9 w5 (((w5.setCell ⟨g9, 1, none⟩ (.int .i64 T)).setCell ⟨g9, 2, none⟩ (.int .i64 (c + p))).setCell ⟨g9, 3, none⟩ (.int .i64 (d + q))) := by
                have n1 : Below g9 w5 (w5.setCell ⟨g9, 1, none⟩ (.int .i64 T)) := (Below.refl g9 w5).setCell (Nat.le_refl _) _
                have n2 : Below g9 w5 ((w5.setCell ⟨g9, 1, none⟩ (.int .i64 T)).setCell ⟨g9, 2, none⟩ (.int .i64 (c + p))) := n1.setCell (Nat.le_refl _) _
                exact n2.setCell (Nat.le_refl _) _
              have HK : Below (w.heap.size + 2) W0 (((w5.setCell ⟨g9, 1, none⟩ (.int .i64 T)).setCell ⟨g9, 2, none⟩ (.int .i64 (c + p))).setCell ⟨g9, 3, none⟩ (.int .i64 (d + q))) := hk5.trans (HN.mono (by omega))
              have HRM : Rm4 (((w5.setCell ⟨g9, 1, none⟩ (.int .i64 T)).setCell ⟨g9, 2, none⟩ (.int .i64 (c + p))).setCell ⟨g9, 3, none⟩ (.int .i64 (d + q))) (w.heap.size + 1 + 1) := hr5.kb hgt HN
              have H9 : C4 (((w5.setCell ⟨g9, 1, none⟩ (.int .i64 T)).setCell ⟨g9, 2, none⟩ (.int .i64 (c + p))).setCell ⟨g9, 3, none⟩ (.int .i64 (d + q))) g9 T T (c + p) (d + q) := by
                obtain ⟨y0, y1, y2, y3⟩ := h95
                exact ⟨(set_off (by omega)).trans ((set_off (by omega)).trans ((set_off (by omega)).trans y0)), (set_off (by omega)).trans ((set_off (by omega)).trans (set_in y1)), (set_off (by omega)).trans (set_in ((set_off (by omega)).trans y2)), set_in ((set_off (by omega)).trans ((set_off (by omega)).trans y3))⟩
              obtain ⟨x0, x1, x2, x3, ⟨a0, a1, a2, a3⟩, b0, b1, b2, b3⟩ := hs5.all
              obtain ⟨k0, k1, k2, k3⟩ := h95
              clear a0 a1 a2 a3 hbp hbq hE2' hr5 hk5 hs5 HN
              go_wp2_with fail
              generalize (((w5.setCell ⟨g9, 1, none⟩ (.int .i64 T)).setCell ⟨g9, 2, none⟩ (.int .i64 (c + p))).setCell ⟨g9, 3, none⟩ (.int .i64 (d + q))) = w6 at HK HRM H9 ⊢
              clear k0 k1 k2 k3 c0 c1 c2 c3 s0 s1 s2 s3 b0 b1 b2 b3
              refine (HRR.out _).mono ?_
              rintro e w8 ⟨rfl, hb8⟩
              have hk8 : Below (w.heap.size + 2) W0 w8 := HK.trans (hb8.mono (Nat.le_of_lt HRM.lt))
              have hr8 : Rm4 w8 (w.heap.size + 1 + 1) := HRM.below hb8
              obtain ⟨k0, k1, k2, k3⟩ := H9.kp hb8
              clear H9 HRM HK hb8 KP
              obtain ⟨x0, x1, x2, x3, ⟨a0, a1, a2, a3⟩, b0, b1, b2, b3⟩ := hr8.all
              by_cases hr : rightS T T (c + p) (d + q) = true
              case neg =>
                have hE9 := HE.out
                rw [if_neg hr, if_neg hr] at hE9
                obtain ⟨hE9, hV9⟩ := hE9
                subst hE9 hV9
                rw [Bool.not_eq_true] at hr
                rw [hr]
                clear hr HE HRR
                have hT : C4 ((((w8.setCell ⟨w.heap.size + 1 + 1, 0, none⟩ (.int .i64 0)).setCell ⟨w.heap.size + 1 + 1, 1, none⟩ (.int .i64 0)).setCell ⟨w.heap.size + 1 + 1, 2, none⟩ (.int .i64 0)).setCell ⟨w.heap.size + 1 + 1, 3, none⟩ (.int .i64 0)) (w.heap.size + 1 + 1) ( 0) ( 0) ( 0) ( 0) := hr8.set _ _ _ _
                have hbF : Below (w.heap.size + 2) W0 ((((w8.setCell ⟨w.heap.size + 1 + 1, 0, none⟩ (.int .i64 0)).setCell ⟨w.heap.size + 1 + 1, 1, none⟩ (.int .i64 0)).setCell ⟨w.heap.size + 1 + 1, 2, none⟩ (.int .i64 0)).setCell ⟨w.heap.size + 1 + 1, 3, none⟩ (.int .i64 0)) := put4_below hk8 (Nat.le_refl _) _ _ _ _
                go_wp2
                generalize ((((w8.setCell ⟨w.heap.size + 1 + 1, 0, none⟩ (.int .i64 0)).setCell ⟨w.heap.size + 1 + 1, 1, none⟩ (.int .i64 0)).setCell ⟨w.heap.size + 1 + 1, 2, none⟩ (.int .i64 0)).setCell ⟨w.heap.size + 1 + 1, 3, none⟩ (.int .i64 0)) = WF at hT hbF ⊢
                obtain ⟨t0, t1, t2, t3⟩ := hT
                exact bodyPost_ret (v := .tuple #[.agg #[.int .i64 0, .int .i64 0, .int .i64 0, .int .i64 0], .int .i64 9]) (by simp [results, Try.results12, go_sem, t0, t1, t2, t3]) rfl ⟨rfl, hb3.trans (hbF.mono (by omega))⟩
              case pos =>
                have hE9 := HE.out
                rw [if_pos hr, if_pos hr] at hE9
                obtain ⟨hE9, hV9⟩ := hE9
                subst hE9 hV9
                rw [hr]
                clear hr HE HRR
                have hT : C4 ((((w8.setCell ⟨w.heap.size + 1 + 1, 0, none⟩ (.int .i64 T)).setCell ⟨w.heap.size + 1 + 1, 1, none⟩ (.int .i64 T)).setCell ⟨w.heap.size + 1 + 1, 2, none⟩ (.int .i64 (c + p))).setCell ⟨w.heap.size + 1 + 1, 3, none⟩ (.int .i64 (d + q))) (w.heap.size + 1 + 1) ( T) ( T) ( (c + p)) ( (d + q)) := hr8.set _ _ _ _
                have hbF : Below (w.heap.size + 2) W0 ((((w8.setCell ⟨w.heap.size + 1 + 1, 0, none⟩ (.int .i64 T)).setCell ⟨w.heap.size + 1 + 1, 1, none⟩ (.int .i64 T)).setCell ⟨w.heap.size + 1 + 1, 2, none⟩ (.int .i64 (c + p))).setCell ⟨w.heap.size + 1 + 1, 3, none⟩ (.int .i64 (d + q))) := put4_below hk8 (Nat.le_refl _) _ _ _ _
                go_wp2
                generalize ((((w8.setCell ⟨w.heap.size + 1 + 1, 0, none⟩ (.int .i64 T)).setCell ⟨w.heap.size + 1 + 1, 1, none⟩ (.int .i64 T)).setCell ⟨w.heap.size + 1 + 1, 2, none⟩ (.int .i64 (c + p))).setCell ⟨w.heap.size + 1 + 1, 3, none⟩ (.int .i64 (d + q))) = WF at hT hbF ⊢
                obtain ⟨t0, t1, t2, t3⟩ := hT
                exact bodyPost_ret (v := .tuple #[.agg #[.int .i64 T, .int .i64 T, .int .i64 (c + p), .int .i64 (d + q)], .int .i64 0]) (by simp [results, Try.results12, go_sem, t0, t1, t2, t3]) rfl ⟨rfl, hb3.trans (hbF.mono (by omega))⟩


end Go.Proofs.Ytibbgihcmcnamaa
