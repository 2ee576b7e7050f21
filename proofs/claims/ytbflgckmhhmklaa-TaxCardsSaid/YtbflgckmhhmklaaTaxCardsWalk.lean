/-
  What is proved: the walk of the statement TaxCards: the call returns true. Conditions: what came in is as the frame says.
-/
import Derived.Test.YtbflgckmhhmklaaFrameX
import Derived.Test.YtbflgckmhhmklaaTxM
namespace Go.Proofs.Ytbflgckmhhmklaa
open Go Go.RowKit Go.Lib Go.Proofs
set_option linter.unusedVariables false

theorem cways5 (a b c d e : Bool) : a = false ∨ (a = true ∧ b = true) ∨ (a = true ∧ b = false ∧ c = true) ∨ (a = true ∧ b = false ∧ c = false ∧ d = true) ∨ (a = true ∧ b = false ∧ c = false ∧ d = false ∧ e = true) ∨ (a = true ∧ b = false ∧ c = false ∧ d = false ∧ e = false) := by
  cases a <;> cases b <;> cases c <;> cases d <;> cases e <;> simp
theorem rises_nil (f : Nat → Bd) : Rises f 0 := ⟨fun h => by omega, fun i h => by omega, fun i h => by omega⟩
/-- More allowance has no more tax. -/
theorem cards_by {base idx of al ex more : Int} {f : Nat → Bd} {n : Nat} (hn : n ≤ 64) (hr : Rises f n) (h : okT base idx of al ex = true) (h2 : okT base idx of (al + more) ex = true) (hb : base ≤ 1099511627776) (hm : 0 ≤ more) :
    todV base idx of (al + more) ex f n ≤ todV base idx of al ex f n := by
  obtain ⟨⟨i0, i1, o1⟩, -⟩ := okT_iff.1 h
  obtain ⟨-, e1, -, -⟩ := tod_is hn hr h (by omega)
  obtain ⟨-, e2, -, -⟩ := tod_is hn hr h2 (by omega)
  rw [e1, e2]
  have hd : (al + more) * idx = al * idx + more * idx := Int.add_mul _ _ _
  have hp : 0 ≤ more * idx := Int.mul_nonneg hm (by omega)
  exact round_mono (by omega) (takes_mono hr i0 (by omega)).1
theorem nil_by {base idx of al ex : Int} {f : Nat → Bd} (h : okT base idx of al ex = true) (hb : base ≤ 1099511627776) : todV base idx of al ex f 0 = 0 := by
  obtain ⟨⟨i0, i1, o1⟩, -⟩ := okT_iff.1 h
  obtain ⟨-, e1, -, -⟩ := tod_is (Nat.zero_le _) (rises_nil f) h (by omega)
  rw [e1, takes_parts (rises_nil f) i0]
  exact round_nil of (by omega)

set_option maxHeartbeats 8000000 in
set_option maxRecDepth 100000 in
theorem walkTaxCards (base idx of al ex : Int) (p : Option Addr) (n cp : Nat) (f : Nat → Bd) (more : Int) (w : World) (_ : (Lit.int .i64 base).wf = true) (_ : (Lit.int .i64 idx).wf = true) (_ : (Lit.int .i64 of).wf = true) (hc : CardArg w p n f) (_ : (Lit.int .i64 more).wf = true) :
    Calls Try.prog 7 #[.int .i64 base, .int .i64 idx, .int .i64 of, .agg #[.int .i64 al, .int .i64 ex, .slice p n cp], .int .i64 more] w fun e w' => e = .returned (.bool true) ∧ Below w.heap.size w w' := by
  obtain ⟨hn, hf⟩ := hc
  have hk0 : Below w.heap.size w (w.alloc (.cells #[.int .i64 al, .int .i64 ex, .slice p n cp] 25)) := (Below.refl _ _).alloc (Nat.le_refl _) _
  have hcd := Cd.new w al ex p n cp 25
  have HG := Lib.hid (fun W hb => right_any al ex p n cp f W hn (hf.kp (w' := W) hb))
  have HT := Lib.hid (fun (h : n ≤ 64) W hb => ToDate_any base idx of al ex p n cp f W (by omega) (hf.kp (w' := W) hb))
  have HU := Lib.hid (fun (h : n ≤ 64) W hb => ToDate_any base idx of (al + more) ex p n cp f W (by omega) (hf.kp (w' := W) hb))
  have HN := Lib.hid (fun W => ToDate_any base idx of al ex none 0 0 f W (by omega) (.inl rfl))
  clear hf
  go_enter Try.func7, Try.ntmps7
  go_upto_region 1 with fail
  generalize (w.alloc (.cells #[.int .i64 al, .int .i64 ex, .slice p n cp] 25)) = W0 at hk0 hcd ⊢
  have HC := Lib.hid hcd
  obtain ⟨s0, s1, s2⟩ := hcd
  go_wp2_with fail
  refine (HG.out _ hk0).mono ?_
  intro e w1 hp
  obtain ⟨b, rfl, hR, hb1⟩ := hp
  have hk1 : Below w.heap.size w w1 := hk0.trans (hb1.mono hk0.size)
  replace HC := Lib.hid (HC.out.kp hb1)
  clear s0 s1 s2
  obtain ⟨s0, s1, s2⟩ := HC.out
  rcases cways5 b (decide (1099511627776 < base)) (decide (base < -1099511627776)) (decide (more < 0)) (decide (1099511627776 < more)) with d1 | ⟨d1, d2⟩ | ⟨d1, d2, d3⟩ | ⟨d1, d2, d3, d4⟩ | ⟨d1, d2, d3, d4, d5⟩ | ⟨d1, d2, d3, d4, d5⟩
  case inr.inr.inr.inr.inr =>
    obtain ⟨hn64, hr, -, ⟨a0, a1⟩, x0, x1⟩ := hR d1
    subst d1
    have b1 := of_decide_eq_false d2
    have b2 := of_decide_eq_false d3
    have b3 := of_decide_eq_false d4
    have b4 := of_decide_eq_false d5
    have fin : ∃ E V U : Int, todE base idx of al ex f n = E ∧ todE base idx of (al + more) ex f n = E ∧ todE base idx of al ex f 0 = E ∧ todV base idx of al ex f n = V ∧ todV base idx of (al + more) ex f n = U ∧ todV base idx of al ex f 0 = 0 ∧ U ≤ V := by
      have k1 : okT base idx of al ex = (decide (1 ≤ idx) && (decide (idx ≤ of) && decide (of ≤ 400))) := okT_by (by omega) (by omega) (by omega)
      have k2 : okT base idx of (al + more) ex = (decide (1 ≤ idx) && (decide (idx ≤ of) && decide (of ≤ 400))) := okT_by (by omega) (by omega) (by omega)
      by_cases hi : (decide (1 ≤ idx) && (decide (idx ≤ of) && decide (of ≤ 400))) = true
      · rw [hi] at k1 k2
        exact ⟨0, _, _, (tod_is hn64 hr k1 (by omega)).1, (tod_is hn64 hr k2 (by omega)).1, (tod_is (Nat.zero_le _) (rises_nil f) k1 (by omega)).1, rfl, rfl, nil_by k1 (by omega), cards_by hn64 hr k1 k2 (by omega) (by omega)⟩
      · rw [Bool.not_eq_true] at hi
        rw [hi] at k1 k2
        exact ⟨2, 0, 0, (tod_bad k1).1, (tod_bad k2).1, (tod_bad k1).1, (tod_bad k1).2, (tod_bad k2).2, (tod_bad k1).2, by omega⟩
    obtain ⟨E, V, U, e1, e2, e3, e4, e5, e6, hle⟩ := fin
    rw [e1, e4] at HT
    rw [e2, e5] at HU
    rw [e3, e6] at HN
    clear e1 e2 e3 e4 e5 e6 hr
    have hcA := Lib.hid (Cd.new w1 (al + more) ex p n cp 25)
    have hbA : Below w1.heap.size w1 (w1.alloc (.cells #[.int .i64 (al + more), .int .i64 ex, .slice p n cp] 25)) := (Below.refl _ _).alloc (Nat.le_refl _) _
    go_upto_region 5 with fail
    generalize (w1.alloc (.cells #[.int .i64 (al + more), .int .i64 ex, .slice p n cp] 25)) = WA at hcA hbA ⊢
    generalize w1.heap.size = gd at hcA ⊢
    have hkA : Below w.heap.size w WA := hk1.trans (hbA.mono hk1.size)
    clear s0 s1 s2
    obtain ⟨s0, s1, s2⟩ := HC.out.kp hbA
    have hcB := Lib.hid (Cd.new WA al ex none 0 0 25)
    have hbB : Below WA.heap.size WA (WA.alloc (.cells #[.int .i64 al, .int .i64 ex, .slice none 0 0] 25)) := (Below.refl _ _).alloc (Nat.le_refl _) _
    go_upto_region 7 with fail
    generalize (WA.alloc (.cells #[.int .i64 al, .int .i64 ex, .slice none 0 0] 25)) = WB at hcB hbB ⊢
    generalize WA.heap.size = gn at hcB ⊢
    have hkB : Below w.heap.size w WB := hkA.trans (hbB.mono hkA.size)
    clear s0 s1 s2
    obtain ⟨s0, s1, s2⟩ := (HC.out.kp hbA).kp hbB
    go_wp2_with fail
    refine (HT.out hn64 _ hkB).mono ?_
    rintro e w2 ⟨rfl, hb2⟩
    have hk2 : Below w.heap.size w w2 := hkB.trans (hb2.mono hkB.size)
    clear s0 s1 s2
    obtain ⟨s0, s1, s2⟩ := (hcA.out.kp hbB).kp hb2
    go_wp2_with fail
    refine (HU.out hn64 _ hk2).mono ?_
    rintro e w3 ⟨rfl, hb3⟩
    have hk3 : Below w.heap.size w w3 := hk2.trans (hb3.mono hk2.size)
    clear s0 s1 s2
    obtain ⟨s0, s1, s2⟩ := (hcB.out.kp hb2).kp hb3
    go_wp2_with fail
    refine (HN.out _).mono ?_
    rintro e w4 ⟨rfl, hb4⟩
    have hk4 : Below w.heap.size w w4 := hk3.trans (hb4.mono hk3.size)
    clear s0 s1 s2
    go_wp2_with fail
    refine (awake_any _).mono ?_
    rintro e w5 ⟨rfl, hb5⟩
    go_wp2
    go_ret
    exact ⟨rfl, hk4.trans (hb5.mono hk4.size)⟩
  all_goals
    subst d1
    go_wp2_with fail
    refine (awake_any _).mono ?_
    rintro e w4 ⟨rfl, hb4⟩
    go_wp2
    go_ret
    exact ⟨rfl, hk1.trans (hb4.mono hk1.size)⟩

end Go.Proofs.Ytbflgckmhhmklaa
