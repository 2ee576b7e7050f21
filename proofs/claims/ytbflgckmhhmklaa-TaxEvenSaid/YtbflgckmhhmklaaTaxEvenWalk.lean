/-
  What is proved: the walk of the statement TaxEven: the call returns true. Conditions: what came in is as the frame says.
-/
import Derived.Test.YtbflgckmhhmklaaFrameX
import Derived.Test.YtbflgckmhhmklaaTxM
import Derived.Test.YtbflgckmhhmklaaTxP
namespace Go.Proofs.Ytbflgckmhhmklaa
open Go Go.RowKit Go.Lib Go.Proofs
set_option linter.unusedVariables false

theorem ways3 (a b c : Bool) : a = false ∨ (a = true ∧ b = true) ∨ (a = true ∧ b = false ∧ c = true) ∨ (a = true ∧ b = false ∧ c = false) := by
  cases a <;> cases b <;> cases c <;> simp

set_option maxHeartbeats 8000000 in
set_option maxRecDepth 100000 in
theorem walkTaxEven (base of al ex : Int) (p : Option Addr) (n cp : Nat) (f : Nat → Bd) (w : World) (_ : (Lit.int .i64 base).wf = true) (hof : (Lit.int .u8 of).wf = true) (hc : CardArg w p n f) :
    Calls Try.prog 3 #[.int .i64 base, .int .u8 of, .agg #[.int .i64 al, .int .i64 ex, .slice p n cp]] w fun e w' => e = .returned (.bool true) ∧ Below w.heap.size w w' := by
  obtain ⟨hn, hf⟩ := hc
  have ho : 0 ≤ of ∧ of ≤ 255 := by
    simp [Lit.wf, IntKind.min, IntKind.max, IntKind.signed, IntKind.bits] at hof
    omega
  have t0 : of.tmod 60 = of % 60 := Int.tmod_eq_emod_of_nonneg ho.1
  have t1 : IntKind.u8.wrap (of % 60) = of % 60 := by
    simp [IntKind.wrap, IntKind.signed, IntKind.bits]; omega
  obtain ⟨m, hm⟩ : ∃ m, m = of % 60 + 1 := ⟨_, rfl⟩
  have m0 : 1 ≤ m := by omega
  have m1 : m ≤ 60 := by omega
  have hk0 : Below w.heap.size w (w.alloc (.cells #[.int .i64 al, .int .i64 ex, .slice p n cp] 25)) := (Below.refl _ _).alloc (Nat.le_refl _) _
  have hcd := Cd.new w al ex p n cp 25
  have HG := Lib.hid (fun W hb => right_any al ex p n cp f W hn (hf.kp (w' := W) hb))
  have HQ := Lib.hid (fun (h : n ≤ 64) W hb => Single_any base m al ex p n cp f W (by omega) (hf.kp (w' := W) hb))
  have HT := Lib.hid (fun (h : n ≤ 64) B T k W hb => Step_any B T base k m al ex p n cp f W (by omega) (hf.kp (w' := W) hb))
  clear hf
  go_enter Try.func3, Try.ntmps3
  go_upto_region 1 with fail
  generalize (w.alloc (.cells #[.int .i64 al, .int .i64 ex, .slice p n cp] 25)) = W0 at hk0 hcd ⊢
  have HC := Lib.hid hcd
  obtain ⟨s0, s1, s2⟩ := hcd
  go_upto_region 2 with fail
  rw [← hm]
  clear t0 t1 hm ho hof
  go_wp2_with fail
  refine (HG.out _ hk0).mono ?_
  intro e w1 hp
  obtain ⟨b, rfl, hR, hb1⟩ := hp
  have hk1 : Below w.heap.size w w1 := hk0.trans (hb1.mono hk0.size)
  replace HC := Lib.hid (HC.out.kp hb1)
  clear s0 s1 s2
  obtain ⟨s0, s1, s2⟩ := HC.out
  rcases ways3 b (decide (base < 0)) (decide (1099511627776 < base)) with d1 | ⟨d1, d2⟩ | ⟨d1, d2, d3⟩ | ⟨d1, d2, d3⟩
  case inr.inr.inr =>
    have b1 := of_decide_eq_false d2
    have b2 := of_decide_eq_false d3
    have hn64 := (hR d1).1
    obtain ⟨T, Q, T0, q0, q1, sE, sV, hst⟩ := even_all (base := base) (m := m) (hR d1) (by omega) (by omega) m0 m1
    obtain ⟨-, -, -, -, x0, x1⟩ := hR d1
    rw [sE, sV] at HQ
    clear sE sV
    subst d1
    go_wp2_with fail
    refine (HQ.out hn64 _ hk1).mono ?_
    rintro e w2 ⟨rfl, hb2⟩
    have hk2 : Below w.heap.size w w2 := hk1.trans (hb2.mono hk1.size)
    replace HC := Lib.hid (HC.out.kp hb2)
    have hcA : C2 (w2.alloc (.cells #[.int .i64 0, .int .i64 0] 32)) w2.heap.size 0 0 := C2.new _ _ _ _
    have hrA : Rm2 (w2.alloc (.cells #[.int .i64 0, .int .i64 0] 32)) w2.heap.size := Rm2.new _ _ _ _
    have hbA : Below w2.heap.size w2 (w2.alloc (.cells #[.int .i64 0, .int .i64 0] 32)) := (Below.refl _ _).alloc (Nat.le_refl _) _
    have hCA := Lib.hid (HC.out.kp hbA)
    have hgl := HC.out.lt
    clear s0 s1 s2 HC
    go_upto_region 8 with fail
    generalize (w2.alloc (.cells #[.int .i64 0, .int .i64 0] 32)) = WA at hcA hrA hbA hCA ⊢
    have hkA : Below w.heap.size w WA := hk2.trans (hbA.mono hk2.size)
    generalize w2.heap.size = gs at hcA hrA hbA hgl ⊢
    have hHA := Lib.hid hcA
    have hHR := Lib.hid hrA
    have HST := Lib.hid hst
    have z0 := (hst 0 (by omega)).2.2
    rw [T0] at z0
    replace z0 : Q ≤ T 1 - 0 ∧ T 1 - 0 ≤ Q + 1 := z0
    have HL := Lib.hid (show ∀ W', Below gs WA W' → Cd W' w.heap.size al ex p n cp ∧ Below w.heap.size w W' from fun W' h => ⟨hCA.out.kb hgl h, hkA.trans (h.mono (by omega))⟩)
    have hT0 := Lib.hid T0
    clear hcA hrA hst T0 hbA hb1 hb2 hk2 hk1 hk0 hCA HG HQ
    have z1 : Q + ex ≤ T 1 + ex := by omega
    have z2 : T 1 + ex ≤ Q + 1 + ex := by omega
    generalize ha1 : T 1 + ex = a1 at z1 z2 ⊢
    replace ha1 := Lib.hid ha1
    clear z0
    go_wp2
    go_loopw [11, 12, 45] (fun lv mv iv wr => ∃ (k : Nat) (lo hi : Int), (k : Int) ≤ m ∧ lv = .int .i64 lo ∧ mv = .int .i64 hi ∧ iv = .int .i64 k ∧ Q + ex ≤ lo ∧ hi ≤ Q + 1 + ex ∧ lo ≤ hi ∧ Hid (C2 wr gs ((k : Int) * base) (T k)) ∧ Hid (Rm2 wr gs) ∧ Hid (Below gs WA wr)) (fun _ _ iv _ => m.toNat - (RowKit.intOf iv).toNat)
    case atStart => exact ⟨0, a1, a1, by omega, rfl, rfl, rfl, by omega, by omega, by omega, Lib.hid (by rw [show ((0 : Nat) : Int) * base = 0 from Int.zero_mul base, hT0.out]; exact hHA.out), hHR, Lib.hid (Below.refl _ _)⟩
    case round =>
      obtain ⟨k, lo, hi, hk, rfl, rfl, rfl, l0, l1, l2, HS, HM, HB⟩ := hrel
      by_cases hlt : (k : Int) < m
      · obtain ⟨e1, e2, e3, e4⟩ := HST.out k hlt
        obtain ⟨⟨s0, s1, s2⟩, hbw⟩ := HL.out _ HB.out
        have HX := Lib.hid (HT.out hn64 ((k : Int) * base) (T k) ((k : Int) + 1) wr hbw)
        rw [e1, e2] at HX
        have hz : k = 0 → T (k + 1) - T k + ex = a1 := fun h => by subst h; rw [hT0.out, ← ha1.out]; show T 1 - 0 + ex = _; omega
        obtain ⟨c0, c1⟩ := HS.out
        have j0 : (0 : Int) ≤ (k : Int) := by omega
        clear e1 e2
        generalize hX : (k : Int) * base = X at HS HX c0
        generalize hY : ((k : Int) + 1) * base = Y at HX
        generalize T k = A at *
        generalize hA : T (k + 1) = A' at HX hz e3 e4
        go_wp2_with fail
        refine (HX.out).mono ?_
        rintro e w4 ⟨rfl, hb4⟩
        have hm4 : Rm2 w4 gs := HM.out.below hb4
        have hgs := hm4.lt
        have hk4 : Below gs WA w4 := HB.out.trans (hb4.mono (Nat.le_of_lt HM.out.lt))
        have hnN : C2 (w4.alloc (.cells #[.int .i64 Y, .int .i64 A'] 32)) w4.heap.size Y A' := C2.new _ _ _ _
        have hmN : Rm2 (w4.alloc (.cells #[.int .i64 Y, .int .i64 A'] 32)) gs := hm4.below ((Below.refl _ _).alloc (Nat.le_refl _) _)
        have hkN : Below gs WA (w4.alloc (.cells #[.int .i64 Y, .int .i64 A'] 32)) := hk4.alloc (by omega) _
        clear c0 c1 s0 s1 s2 hm4 hk4 hb4
        go_upto_region 13 with fail
        generalize (w4.alloc (.cells #[.int .i64 Y, .int .i64 A'] 32)) = WN at hnN hmN hkN ⊢
        generalize w4.heap.size = gN at hnN hgs ⊢
        obtain ⟨n0, n1⟩ := hnN
        have HF := Lib.hid (hmN.c2 Y A')
        have HFM := Lib.hid ((hmN.put 0 (by omega) (.int .i64 Y)).put 1 (by omega) (.int .i64 A'))
        have HFB := Lib.hid (put2_below hkN (Nat.le_refl _) (.int .i64 Y) (.int .i64 A'))
        obtain ⟨y0, y1, ⟨p0, p1⟩, r0, r1⟩ := hmN.all
        have hH := Lib.hid (show C2 ((WN.setCell ⟨gs, 0, none⟩ (.int .i64 Y)).setCell ⟨gs, 1, none⟩ (.int .i64 A')) gs (((k + 1 : Nat) : Int) * base) (T (k + 1)) by
          rw [hA, show ((k + 1 : Nat) : Int) = (k : Int) + 1 from rfl, hY]; exact HF.out)
        clear hmN hkN HF hY hA hX
        have l3 : Q + ex ≤ A' - A + ex := by omega
        have l4 : A' - A + ex ≤ Q + 1 + ex := by omega
        generalize A' - A + ex = t at *
        by_cases hk0 : k = 0
        · have dk : ((k : Int) == 0) = true := by simp; omega
          have dz : (t != a1) = false := by simp [hz hk0]
          clear hz
          go_wp2
          exact ⟨⟨k + 1, min lo t, max hi t, by omega, rfl, rfl, by go_num, by omega, by omega, by omega, hH, HFM, HFB⟩, by simp [RowKit.intOf]; omega⟩
        · have dk : ((k : Int) == 0) = false := by simp; omega
          clear hz
          go_wp2
          exact ⟨⟨k + 1, min lo t, max hi t, by omega, rfl, rfl, by go_num, by omega, by omega, by omega, hH, HFM, HFB⟩, by simp [RowKit.intOf]; omega⟩
      · obtain rfl : m = (k : Int) := by omega
        obtain ⟨-, hbw⟩ := HL.out _ HB.out
        go_wp2_with fail
        refine (awake_any _).mono ?_
        rintro e w5 ⟨rfl, hb5⟩
        have dd : hi - lo ≤ 1 := by omega
        go_wp2
        go_ret
        exact ⟨rfl, hbw.trans (hb5.mono hbw.size)⟩
  all_goals
    subst d1
    go_wp2_with fail
    refine (awake_any _).mono ?_
    rintro e w4 ⟨rfl, hb4⟩
    go_wp2
    go_ret
    exact ⟨rfl, hk1.trans (hb4.mono hk1.size)⟩

end Go.Proofs.Ytbflgckmhhmklaa
