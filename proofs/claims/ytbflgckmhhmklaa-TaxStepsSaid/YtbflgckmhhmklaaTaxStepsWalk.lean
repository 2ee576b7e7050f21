/-
  What is proved: the walk of the statement TaxSteps: the call returns true. Conditions: what came in is as the frame says.
-/
import Derived.Test.YtbflgckmhhmklaaFrameY
namespace Go.Proofs.Ytbflgckmhhmklaa
open Go Go.RowKit Go.Lib Go.Proofs
set_option linter.unusedVariables false

set_option maxHeartbeats 8000000 in
set_option maxRecDepth 100000 in
theorem walkTaxSteps (base paid of : Int) (pl : Option Addr) (L capL : Nat) (zs : List Int) (pc : Option Addr) (M capM : Nat) (C : Nat → Cq) (w : World) (_ : (Lit.int .i64 base).wf = true) (_ : (Lit.int .i64 paid).wf = true) (_ : (Lit.int .i64 of).wf = true) (hl : IsRow .i64 w pl L capL zs) (hc : CdsIn w pc M C ∧ M ≤ maxLen) :
    Calls Try.prog 5 #[.int .i64 base, .int .i64 paid, .int .i64 of, .slice pl L capL, .slice pc M capM] w fun e w' => e = .returned (.bool true) ∧ Below w.heap.size w w' := by
  obtain ⟨hcs, hM⟩ := hc
  obtain ⟨x, hx, hL⟩ := wts_of hl
  clear hl
  unfold maxLen at hM hL
  have HC := Lib.hid hcs
  have HX := Lib.hid hx
  clear hcs hx
  go_enter Try.func5, Try.ntmps5
  by_cases hL60 : L ≤ 60
  case neg =>
    have i1 : ¬ (L : Int) ≤ 60 := by omega
    go_wp2_with fail
    refine (awake_any _).mono ?_
    rintro e w1 ⟨rfl, hb1⟩
    go_wp2
    go_ret
    exact ⟨rfl, hb1⟩
  case pos =>
  have i1 : (L : Int) ≤ 60 := by omega
  by_cases hM0 : M = 0
  case pos =>
    have i2 : ((M : Int) == 0) = true := by simp; omega
    go_wp2_with fail
    refine (awake_any _).mono ?_
    rintro e w1 ⟨rfl, hb1⟩
    go_wp2
    go_ret
    exact ⟨rfl, hb1⟩
  case neg =>
  have i2 : ((M : Int) == 0) = false := by simp; omega
  by_cases hM1 : M ≤ 10
  case neg =>
    have i3 : ¬ (M : Int) ≤ 10 := by omega
    go_wp2_with fail
    refine (awake_any _).mono ?_
    rintro e w1 ⟨rfl, hb1⟩
    go_wp2
    go_ret
    exact ⟨rfl, hb1⟩
  case pos =>
  have i3 : (M : Int) ≤ 10 := by omega
  go_wp2
  go_loopw [40] (fun iv wr => ∃ k : Nat, k ≤ M ∧ iv = .int .i64 k ∧ Hid (∀ j, j < k → (C j).n ≤ 70) ∧ Hid (Below w.heap.size w wr)) (fun iv _ => M - (RowKit.intOf iv).toNat)
  case atStart => exact ⟨0, Nat.zero_le _, rfl, Lib.hid (fun j h => by omega), Lib.hid (Below.refl _ _)⟩
  case round =>
    obtain ⟨k, hk, rfl, HN, HB⟩ := hrel
    by_cases hlt : k < M
    · rcases HC.out.kp HB.out with h | ⟨b, o, rfl, hbl, hcc⟩
      · omega
      obtain ⟨⟨g0, g1, g2⟩, -⟩ := hcc k hlt
      have HN2 := Lib.hid (show (C k).n ≤ 70 → ∀ j, j < k + 1 → (C j).n ≤ 70 from fun h j hj => by
        rcases Nat.lt_succ_iff_lt_or_eq.1 hj with h3 | rfl
        · exact HN.out j h3
        · exact h)
      have j0 : (0 : Int) ≤ (k : Int) := by omega
      have j1 : (k : Int) < (M : Int) := by omega
      clear hcc
      generalize (C k).al = al at *
      generalize (C k).ex = ex at *
      generalize (C k).p = cp0 at *
      generalize (C k).n = cn at *
      generalize (C k).cp = cc at *
      have hcd := Cd.new wr al ex cp0 cn cc 25
      have hbA := Lib.hid (HB.out.alloc HB.out.size (.cells #[.int .i64 al, .int .i64 ex, .slice cp0 cn cc] 25))
      go_upto_region 6 with fail
      generalize (wr.alloc (.cells #[.int .i64 al, .int .i64 ex, .slice cp0 cn cc] 25)) = WA at hcd hbA ⊢
      generalize wr.heap.size = gA at hcd ⊢
      obtain ⟨s0, s1, s2⟩ := hcd
      clear g0 g1 g2
      by_cases hn : cn ≤ 70
      · have i4 : (cn : Int) ≤ 70 := by omega
        have HN3 := Lib.hid (HN2.out hn)
        go_wp2
        exact ⟨⟨k + 1, by omega, by go_num, HN3, hbA⟩, by simp [RowKit.intOf]; omega⟩
      · have i4 : ¬ (cn : Int) ≤ 70 := by omega
        go_wp2_with fail
        refine (awake_any _).mono ?_
        rintro e w1 ⟨rfl, hb1⟩
        go_wp2
        go_ret
        exact ⟨rfl, hbA.out.trans (hb1.mono hbA.out.size)⟩
    · obtain rfl : M = k := by omega
      have HN70 := Lib.hid HN.out
      have hcA : C2 (wr.alloc (.cells #[.int .i64 base, .int .i64 paid] 32)) wr.heap.size base paid := C2.new _ _ _ _
      have hrA : Rm2 (wr.alloc (.cells #[.int .i64 base, .int .i64 paid] 32)) wr.heap.size := Rm2.new _ _ _ _
      have hbA : Below wr.heap.size wr (wr.alloc (.cells #[.int .i64 base, .int .i64 paid] 32)) := (Below.refl _ _).alloc (Nat.le_refl _) _
      have HCr := Lib.hid (HC.out.kp HB.out)
      have HXr := Lib.hid (HX.out.kp HB.out)
      have hgw := HB.out.size
      have hBw := Lib.hid HB.out
      clear HN HB
      have HL := Lib.hid (show ∀ W', Below wr.heap.size (wr.alloc (.cells #[.int .i64 base, .int .i64 paid] 32)) W' → CdsIn W' pc M C ∧ Wts W' pl L x ∧ Below w.heap.size w W' from fun W' h => ⟨HCr.out.kp (hbA.trans h), HXr.out.kp (hbA.trans h), hBw.out.trans ((hbA.trans h).mono hgw)⟩)
      go_upto_region 10 with fail
      generalize (wr.alloc (.cells #[.int .i64 base, .int .i64 paid] 32)) = WA at hcA hrA HL ⊢
      clear hbA HCr HXr hBw hgw
      generalize wr.heap.size = gs at hcA hrA HL ⊢
      have HS0 := Lib.hid hcA
      have HR0 := Lib.hid hrA
      clear hcA hrA
      go_wp2
      go_loopw [55] (fun iv wr => ∃ (k : Nat) (X Y : Int), k ≤ L ∧ iv = .int .i64 k ∧ Hid (C2 wr gs X Y) ∧ Hid (Rm2 wr gs) ∧ Hid (Below gs WA wr)) (fun iv _ => L - (RowKit.intOf iv).toNat)
      case atStart => exact ⟨0, base, paid, Nat.zero_le _, rfl, HS0, HR0, Lib.hid (Below.refl _ _)⟩
      case round =>
        obtain ⟨k, X, Y, hk2, rfl, HS, HR, HB⟩ := hrel
        obtain ⟨hC, hX, hbw⟩ := HL.out _ HB.out
        by_cases hlt2 : k < L
        · rcases hX with h | ⟨b1, o1, rfl, -, hx⟩
          · omega
          have xk := hx k hlt2
          clear hx
          rcases hC with h | ⟨b2, o2, rfl, -, hcc⟩
          · omega
          obtain ⟨j, hj⟩ : ∃ j, j = k % M := ⟨_, rfl⟩
          have hjM : j < M := by rw [hj]; exact Nat.mod_lt _ (by omega)
          obtain ⟨⟨g0, g1, g2⟩, -, hband⟩ := hcc j hjM
          have hn70 := HN70.out j hjM
          clear hcc
          have j0 : (0 : Int) ≤ (k : Int) := by omega
          have j1 : (k : Int) < (L : Int) := by omega
          have j2 : (0 : Int) ≤ (j : Int) := by omega
          have j3 : (j : Int) < (M : Int) := by omega
          have t1 : (k : Int).tmod (M : Int) = (j : Int) := by rw [Int.tmod_eq_emod_of_nonneg (by omega), hj]; rfl
          have t2 : IntKind.i64.wrap ((k : Int).tmod (M : Int)) = (j : Int) := by rw [t1]; exact IntWalk.i64_in _ (by omega)
          have t3 : (k : Int) % (M : Int) = (j : Int) := by rw [hj]; rfl
          have hMM : ¬ (M : Int) = 0 := by omega
          clear hj
          generalize x k = xv at *
          generalize C j = c at *
          obtain ⟨al, ex, cp0, cn, cc, cf⟩ := c
          dsimp only [CqAt] at g0 g1 g2 hband hn70
          have hcd := Cd.new wr al ex cp0 cn cc 25
          have hqA : Below wr.heap.size wr (wr.alloc (.cells #[.int .i64 al, .int .i64 ex, .slice cp0 cn cc] 25)) := (Below.refl _ _).alloc (Nat.le_refl _) _
          have HSA := Lib.hid (HS.out.kp hqA)
          have HRA := Lib.hid (HR.out.below hqA)
          have HBA := Lib.hid (HB.out.alloc (Nat.le_of_lt HS.out.lt) (.cells #[.int .i64 al, .int .i64 ex, .slice cp0 cn cc] 25))
          have hbandA := hband.kp hqA
          clear hband HS HR HB
          go_upto_region 14 with fail
          generalize (wr.alloc (.cells #[.int .i64 al, .int .i64 ex, .slice cp0 cn cc] 25)) = WC at hcd HSA HRA HBA hbandA ⊢
          generalize wr.heap.size = gc at hcd ⊢
          clear hqA xk g0 g1 g2 t1 t2 t3
          have H1 := Lib.hid (fun W hb => Step_any X Y xv ((k : Int) + 1) of al ex cp0 cn cc cf W (by omega) (hbandA.kp (w' := W) hb))
          have H2 := Lib.hid (fun W hb => rStep_any X Y xv ((k : Int) + 1) of al ex cp0 cn cc cf W (by omega) (hbandA.kp (w' := W) hb))
          generalize stpV X Y xv ((k : Int) + 1) of al ex cf cn = V at H1 H2
          generalize stpE X Y xv ((k : Int) + 1) of al ex cf cn = E at H1 H2
          obtain ⟨V0, V1, V2⟩ := V
          dsimp only at H1 H2
          have HCD := Lib.hid hcd
          obtain ⟨s0, s1, s2⟩ := hcd
          obtain ⟨c0, c1⟩ := HSA.out
          go_wp2_with fail
          refine (H1.out _ (Below.refl _ _)).mono ?_
          rintro e w4 ⟨rfl, hb4⟩
          have hgs := HSA.out.lt
          have hnN : C2 (w4.alloc (.cells #[.int .i64 V0, .int .i64 V1] 32)) w4.heap.size V0 V1 := C2.new _ _ _ _
          have hb5 : Below WC.heap.size WC (w4.alloc (.cells #[.int .i64 V0, .int .i64 V1] 32)) := hb4.alloc hb4.size _
          clear s0 s1 s2 c0 c1
          go_upto_region 15 with fail
          generalize (w4.alloc (.cells #[.int .i64 V0, .int .i64 V1] 32)) = WN at hnN hb5 ⊢
          generalize w4.heap.size = gN at hnN ⊢
          obtain ⟨s0, s1, s2⟩ := HCD.out.kp hb5
          obtain ⟨c0, c1⟩ := HSA.out.kp hb5
          go_wp2_with fail
          refine (H2.out _ hb5).mono ?_
          rintro e w6 ⟨rfl, hb6⟩
          have hb7 : Below WC.heap.size WC w6 := hb5.trans (hb6.mono hb5.size)
          have hR6 : Rm2 w6 gs := HRA.out.below hb7
          have hB6 : Below gs WA w6 := HBA.out.trans (hb7.mono (Nat.le_of_lt hgs))
          obtain ⟨n0, n1⟩ := hnN.kp hb6
          have HF := Lib.hid (hR6.c2 V0 V1)
          have HFM := Lib.hid ((hR6.put 0 (by omega) (.int .i64 V0)).put 1 (by omega) (.int .i64 V1))
          have HFB := Lib.hid (put2_below hB6 (Nat.le_refl _) (.int .i64 V0) (.int .i64 V1))
          obtain ⟨y0, y1, ⟨p0, p1⟩, r0, r1⟩ := hR6.all
          clear s0 s1 s2 c0 c1 hR6 hB6 hb4 hb5 hb6 hb7 hbandA
          go_wp2
          exact ⟨⟨k + 1, V0, V1, by omega, by go_num, HF, HFM, HFB⟩, by simp [RowKit.intOf]; omega⟩
        · obtain rfl : L = k := by omega
          go_wp2_with fail
          refine (awake_any _).mono ?_
          rintro e w1 ⟨rfl, hb1⟩
          go_wp2
          go_ret
          exact ⟨rfl, hbw.trans (hb1.mono hbw.size)⟩

end Go.Proofs.Ytbflgckmhhmklaa
