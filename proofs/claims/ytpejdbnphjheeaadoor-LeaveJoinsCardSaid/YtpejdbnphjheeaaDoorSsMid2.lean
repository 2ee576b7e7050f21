/-
  What is proved: the contract of slices.symMergeCmpFunc over a row of places, where the middle lies in the second one of the two sorted ranges. Conditions: as it says.
-/
import Derived.Test.YtpejdbnphjheeaaDoorSsSym
import Derived.Deep.DeepCutAuto
namespace Go.Proofs.YtpejdbnphjheeaaDoor.Ss
open Go Go.RowKit Go.Proofs Go.Sort

set_option maxHeartbeats 8000000 in
set_option maxRecDepth 100000 in
theorem sym_mid2 (g n cap a m b : Nat) (K : Els) (r f : Nat → Nat) (w : World) (hn : n ≤ 1000) (ham : a + 1 < m) (hmm0 : ¬ (a + b) / 2 < m) (hmb : m + 1 < b) (hbn : b ≤ n) (hT : TwoOn r f a m b) (hL : ∀ i, i < n → f i < n) (hR : Row w g n K f) (hS : CmpOk n K r)
    (IH : Hid (∀ (a' m' b' : Nat) (f' : Nat → Nat) (w' : World), b' - a' < b - a → a' < m' → m' < b' → b' ≤ n → TwoOn r f' a' m' b' → (∀ i, i < n → f' i < n) → Row w' g n K f' → CmpOk n K r → Calls Tryd.prog 53 #[.slice (some ⟨g, 0, none⟩) n cap, .int .i64 a', .int .i64 m', .int .i64 b', (Value.func (.func 42) #[] #[])] w' (SymPost g n a' b' K r f' w'))) :
    Calls Tryd.prog 53 #[.slice (some ⟨g, 0, none⟩) n cap, .int .i64 a, .int .i64 m, .int .i64 b, (Value.func (.func 42) #[] #[])] w (SymPost g n a b K r f w) := by
  have HR := Lib.hid hR
  have HS := Lib.hid hS
  have HT := Lib.hid hT
  have HL := Lib.hid hL
  have d0 : ((m : Int) - (a : Int) == 1) = false := by simp; omega
  have d1 : ((b : Int) - (m : Int) == 1) = false := by simp; omega
  obtain ⟨M, hM⟩ : ∃ M : Nat, M = (a + b) / 2 := ⟨_, rfl⟩
  have eM : ((a : Int) + (b : Int)) / 2 = (M : Int) := by omega
  have M1 : a < M := by omega
  have M2 : M < b := by omega
  obtain ⟨s0, hs0⟩ : ∃ s0 : Nat, s0 = (if M < m then M + m - b else a) := ⟨_, rfl⟩
  obtain ⟨t0, ht0⟩ : ∃ t0 : Nat, t0 = (if M < m then M else m) := ⟨_, rfl⟩
  obtain ⟨P, hP⟩ : ∃ P : Nat, P = M + m - 1 := ⟨_, rfl⟩
  have eP : (M : Int) + (m : Int) - 1 = (P : Int) := by omega
  have hst : s0 ≤ t0 := by rw [hs0, ht0]; split <;> omega
  have ht1 : t0 ≤ m := by rw [ht0]; split <;> omega
  have hs1 : a ≤ s0 := by rw [hs0]; split <;> omega
  have HIN : Hid (∀ c, s0 ≤ c → c < t0 → a ≤ c ∧ c < m ∧ m ≤ P - c ∧ P - c < b ∧ c ≤ P) := Lib.hid (fun c c1 c2 => by rw [hs0] at c1; rw [ht0] at c2; split at c1 <;> rename_i hh <;> simp only [hh, if_true, if_false] at c2 <;> omega)
  have HEDGE : Hid ((s0 = a ∨ M + m - s0 = b) ∧ (t0 = m ∨ M + m - t0 = m)) := Lib.hid (by rw [hs0, ht0]; split <;> omega)
  have hsb : s0 + b ≥ M + m := by rw [hs0]; split <;> omega
  have htm : t0 ≤ M := by rw [ht0]; split <;> omega
  have HPD := Lib.hid hP
  have hP1 : m ≤ P := by omega
  have hP2 : P ≤ 2000 := by omega
  have HMD := Lib.hid hM
  clear hR hS hT hL hM hP
  have hmm : ¬ M < m := by rw [HMD.out]; exact hmm0
  have es : s0 = a := by rw [hs0, if_neg hmm]
  have et : t0 = m := by rw [ht0, if_neg hmm]
  have HES := Lib.hid es
  have HET := Lib.hid et
  clear hs0 ht0 et es
  go_enter Tryd.func53, Tryd.ntmps53
  have mixed : Tryd.prog.follows .mixedOrders = true := by kernel_rfl
  go_wp2
  go_loopw [20, 21, 23] (fun sv tv _ wr => ∃ s t : Nat, s0 ≤ s ∧ s ≤ t ∧ t ≤ t0 ∧ sv = .int .i64 s ∧ tv = .int .i64 t ∧ Hid (∀ c, s0 ≤ c → c < s → ¬ r (f c) < r (f (P - c))) ∧ Hid (∀ c, t ≤ c → c < t0 → r (f c) < r (f (P - c))) ∧ Hid (Row wr g n K f) ∧ But g w wr) (fun sv tv _ _ => (RowKit.intOf tv - RowKit.intOf sv).toNat)
  case atStart => exact ⟨s0, t0, by omega, hst, by omega, congrArg (Value.int .i64) (by have := HES.out; omega), congrArg (Value.int .i64) (by have := HET.out; omega), Lib.hid (fun k h1 h2 => by omega), Lib.hid (fun k h1 h2 => by omega), HR, But.refl _ _⟩
  case round =>
    obtain ⟨s, t, p1, p2, p3, rfl, rfl, HLO, HHI, HRw, hb⟩ := hrel
    by_cases hpq : s < t
    · obtain ⟨C, hC⟩ : ∃ C : Nat, C = (s + t) / 2 := ⟨_, rfl⟩
      have eC : ((s : Int) + (t : Int)) / 2 = (C : Int) := by omega
      have C1 : s ≤ C := by omega
      have C2 : C < t := by omega
      obtain ⟨k1, k2, k3, k4, k5⟩ := HIN.out C (by omega) (by omega)
      obtain ⟨D, hD⟩ : ∃ D : Nat, D = P - C := ⟨_, rfl⟩
      rw [← hD] at k3 k4
      have eD : (P : Int) - (C : Int) = (D : Int) := by omega
      have HDD := Lib.hid hD
      have hva := HL.out D (by omega)
      obtain ⟨xa, hxa⟩ : ∃ xa, xa = f D := ⟨_, rfl⟩
      obtain ⟨ca, ca'⟩ := Row.cells HRw.out D (by omega) xa hxa
      rw [← hxa] at hva
      have HXA := Lib.hid hxa
      have hvh := HL.out C (by omega)
      obtain ⟨xh, hxh⟩ : ∃ xh, xh = f C := ⟨_, rfl⟩
      obtain ⟨ch, ch'⟩ := Row.cells HRw.out C (by omega) xh hxh
      rw [← hxh] at hvh
      have HXH := Lib.hid hxh
      have hcb := cmp_bd (r xh) (r xa)
      have hcn := cmp_neg (r xh) (r xa)
      have i1 : (C : Int) < (n : Int) := by omega
      have i2 : (D : Int) < (n : Int) := by omega
      have i3 : IntKind.i64.wrap (D : Int) = (D : Int) := IntWalk.i64_in _ (by omega)
      have HSz := Lib.hid (HS.out)
      clear hC hxh hxa hD
      by_cases hlt : r xh < r xa
      · as_aux_lemma =>
        have d2 : decide (cmpV (r xh) (r xa) < 0) = true := by rw [hcn]; exact decide_eq_true hlt
        clear hcn
        go_wp2
        go_quiet_grown (first | (go_at_call 42; refine Calls.grown_of (HSz.out _ _ _ (by omega) (by omega))))
        go_wp2
        refine ⟨⟨s, C, by omega, by omega, by omega, rfl, rfl, HLO, Lib.hid (mid_hi HT.out HIN.out (by omega) (by rw [← HDD.out, ← HXA.out, ← HXH.out]; exact hlt)), Lib.hid (HRw.out.grown _ _), below_grown hb (Nat.le_of_lt HRw.out.1) _ _⟩, by simp [RowKit.intOf]; omega⟩
      · as_aux_lemma =>
        have d2 : decide (cmpV (r xh) (r xa) < 0) = false := by rw [hcn]; exact decide_eq_false hlt
        clear hcn
        go_wp2
        go_quiet_grown (first | (go_at_call 42; refine Calls.grown_of (HSz.out _ _ _ (by omega) (by omega))))
        go_wp2
        refine ⟨⟨C + 1, t, by omega, by omega, by omega, by go_num, rfl, Lib.hid (mid_lo HT.out HIN.out (by omega) (by omega) (by rw [← HDD.out, ← HXA.out, ← HXH.out]; exact hlt)), HHI, Lib.hid (HRw.out.grown _ _), below_grown hb (Nat.le_of_lt HRw.out.1) _ _⟩, by simp [RowKit.intOf]; omega⟩
    · obtain rfl : s = t := by omega
      obtain ⟨E, hE⟩ : ∃ E : Nat, E = M + m - s := ⟨_, rfl⟩
      have eE : (M : Int) + (m : Int) - (s : Int) = (E : Int) := by omega
      have E1 : m ≤ E := by omega
      have E2 : E ≤ b := by omega
      have HPART := Lib.hid (parted (mid := M) (s := s) (e := E) HT.out (by omega) (by omega) E1 E2 (by omega)
        (fun h1 h2 => by
          have hed := HEDGE.out
          have hl := HLO.out (s - 1) (by omega) (by omega)
          rw [show P - (s - 1) = E by have := HPD.out; omega] at hl
          exact hl)
        (fun h1 h2 => by
          have hed := HEDGE.out
          have hl := HHI.out s (by omega) (by omega)
          rw [show P - s = E - 1 by have := HPD.out; omega] at hl
          exact hl))
      have HEE := Lib.hid hE
      clear HLO HHI hE
      obtain ⟨G, hG⟩ : ∃ G, G = rotF f s m E := ⟨_, rfl⟩
      have HG := Lib.hid hG
      have HP0 := HPART.out
      rw [← hG] at HP0
      have HPG := Lib.hid HP0
      clear hG HP0 HPART
      obtain ⟨B1, hB1⟩ : ∃ B1 : Bool, B1 = (decide (s < m) && decide (m < E)) := ⟨_, rfl⟩
      obtain ⟨B2, hB2⟩ : ∃ B2 : Bool, B2 = (decide (a < s) && decide (s < M)) := ⟨_, rfl⟩
      have HB1 := Lib.hid hB1
      have HB2 := Lib.hid hB2
      clear hB1 hB2
      go_upto_region 39 with fail
      go_cut [185] (fun v wx => v = .bool B1 ∧ Hid (Row wx g n K f) ∧ But g w wx)
      case first =>
       as_aux_lemma =>
        by_cases c1 : s < m
        · by_cases c2 : m < E
          · obtain rfl : B1 = true := by rw [HB1.out, decide_eq_true c1, decide_eq_true c2]; rfl
            go_wp2
            go_meet
            case rel => exact ⟨rfl, HRw, hb⟩
          · obtain rfl : B1 = false := by rw [HB1.out, decide_eq_true c1, decide_eq_false c2]; rfl
            go_wp2
            go_meet
            case rel => exact ⟨rfl, HRw, hb⟩
        · obtain rfl : B1 = false := by rw [HB1.out, decide_eq_false c1]; rfl
          have c1' : decide (s < m) = false := decide_eq_false c1
          first
          | (exfalso; have := HET.out; omega)
          | (go_wp2
             go_meet
             case rel => exact ⟨rfl, HRw, hb⟩)
      case rest =>
      clear HRw hb
      obtain ⟨rfl, HRw, hb⟩ := hcut
      go_upto_if 185 with fail
      go_cut [191] (fun _ wx => Hid (Row wx g n K G) ∧ But g w wx)
      case first =>
       as_aux_lemma =>
        cases B1 with
        | true =>
          have hc := HB1.out.symm
          simp only [Bool.and_eq_true, decide_eq_true_eq] at hc
          obtain ⟨c1, c2⟩ := hc
          go_wp2_with fail
          refine (rotate_any g n cap s m E _ K f _ hn c1 c2 (by omega) HRw.out).mono ?_
          rintro e w1 ⟨rfl, hR1, hb1⟩
          go_wp2
          go_meet
          case rel => exact ⟨Lib.hid (by rw [HG.out]; exact hR1), hb.trans hb1⟩
        | false =>
          have hc := HB1.out.symm
          simp only [Bool.and_eq_false_iff, decide_eq_false_iff_not] at hc
          have HGf : Hid (G = f) := Lib.hid (by rw [HG.out]; exact rot_none f s m E (by omega) (by omega) (by omega))
          clear hc
          go_wp2
          go_meet
          case rel => exact ⟨Lib.hid (by rw [HGf.out]; exact HRw.out), hb⟩
      case rest =>
        clear HRw hb
        obtain ⟨HRg, hb⟩ := hcut
        go_upto_region 41 with fail
        go_cut [199] (fun v wx => v = .bool B2 ∧ Hid (Row wx g n K G) ∧ But g w wx)
        case first =>
         as_aux_lemma =>
          by_cases c1 : a < s
          · by_cases c2 : s < M
            · obtain rfl : B2 = true := by rw [HB2.out, decide_eq_true c1, decide_eq_true c2]; rfl
              go_wp2
              go_meet
              case rel => exact ⟨rfl, HRg, hb⟩
            · obtain rfl : B2 = false := by rw [HB2.out, decide_eq_true c1, decide_eq_false c2]; rfl
              go_wp2
              go_meet
              case rel => exact ⟨rfl, HRg, hb⟩
          · obtain rfl : B2 = false := by rw [HB2.out, decide_eq_false c1]; rfl
            have c1' : decide (a < s) = false := decide_eq_false c1
            go_wp2
            go_meet
            case rel => exact ⟨rfl, HRg, hb⟩
        case rest =>
        clear HRg hb
        obtain ⟨rfl, HRg, hb⟩ := hcut
        go_upto_if 199 with fail
        go_cut [205] (fun _ wx => Hid (∃ G1, Row wx g n K G1 ∧ PermOn a M G G1 ∧ SortedOn r G1 a M) ∧ But g w wx)
        case first =>
         as_aux_lemma =>
          cases B2 with
          | true =>
            have hc := HB2.out.symm
            simp only [Bool.and_eq_true, decide_eq_true_eq] at hc
            obtain ⟨c1, c2⟩ := hc
            have HTW := Lib.hid (HPG.out.2.1 c1 c2)
            have HLg := Lib.hid (perm_lt HPG.out.1 hbn HL.out)
            have HSg := Lib.hid (HS.out)
            go_wp2_with fail
            refine (IH.out a s M G _ (by omega) c1 c2 (by omega) HTW.out HLg.out HRg.out HSg.out).mono ?_
            rintro e w1 ⟨rfl, hR1, hb1⟩
            go_wp2
            go_meet
            case rel => exact ⟨Lib.hid hR1, hb.trans hb1⟩
          | false =>
            have hc := HB2.out.symm
            simp only [Bool.and_eq_false_iff, decide_eq_false_iff_not] at hc
            have HSL := Lib.hid (HPG.out.2.2.2.1 (by omega))
            clear hc
            go_wp2
            go_meet
            case rel => exact ⟨Lib.hid ⟨G, HRg.out, PermOn.refl _ _ _, HSL.out⟩, hb⟩
        case rest =>
          clear HRg hb
          obtain ⟨HG1, hb⟩ := hcut
          obtain ⟨G1, hR1, hp1, hso1⟩ := HG1.out
          have HR1 := Lib.hid hR1
          have HP1 := Lib.hid hp1
          have HS1 := Lib.hid hso1
          clear hR1 hp1 hso1 HG1
          by_cases c1 : M < E
          · by_cases c2 : E < b
            · have HTW := Lib.hid (two_far (HPG.out.2.2.1 c1 c2) (fun i i1 i2 => HP1.out.2.2 i (by omega)) (by omega) (by omega))
              have HLg := Lib.hid (perm_lt HP1.out (by omega) (perm_lt HPG.out.1 hbn HL.out))
              have HSg := Lib.hid (HS.out)
              go_wp2_with fail
              refine (IH.out M E b G1 _ (by omega) c1 c2 (by omega) HTW.out HLg.out HR1.out HSg.out).mono ?_
              rintro e w1 ⟨rfl, ⟨G2, hR2, hp2, hso2⟩, hb1⟩
              have HR2 := Lib.hid hR2
              have HH := Lib.hid (halves (by omega) (by omega) HP1.out HS1.out hp2 hso2 HPG.out.2.2.2.2.2)
              clear hR2 hp2 hso2
              go_wp2
              go_end0
              exact ⟨rfl, ⟨G2, HR2.out, HPG.out.1.trans HH.out.1, HH.out.2⟩, hb.trans hb1⟩
            · have c2' : decide (E < b) = false := decide_eq_false c2
              have HSR : Hid (SortedOn r G1 M b) := Lib.hid (fun i j i1 i2 i3 => by rw [HP1.out.2.2 i (by omega), HP1.out.2.2 j (by omega)]; exact HPG.out.2.2.2.2.1 (by omega) i j i1 i2 i3)
              have HH := Lib.hid (halves (by omega) (by omega) HP1.out HS1.out (PermOn.refl M b G1) HSR.out HPG.out.2.2.2.2.2)
              go_wp2
              go_end0
              exact ⟨rfl, ⟨G1, HR1.out, HPG.out.1.trans HH.out.1, HH.out.2⟩, hb⟩
          · have c1' : decide (M < E) = false := decide_eq_false c1
            have HSR : Hid (SortedOn r G1 M b) := Lib.hid (fun i j i1 i2 i3 => by rw [HP1.out.2.2 i (by omega), HP1.out.2.2 j (by omega)]; exact HPG.out.2.2.2.2.1 (by omega) i j i1 i2 i3)
            have HH := Lib.hid (halves (by omega) (by omega) HP1.out HS1.out (PermOn.refl M b G1) HSR.out HPG.out.2.2.2.2.2)
            go_wp2
            go_end0
            exact ⟨rfl, ⟨G1, HR1.out, HPG.out.1.trans HH.out.1, HH.out.2⟩, hb⟩

end Go.Proofs.YtpejdbnphjheeaaDoor.Ss
