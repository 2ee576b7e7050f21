/-
  What is proved: the walk of the statement TaxRises: the call returns true. Conditions: what came in is as the frame says.
-/
import Derived.Test.YtbflgckmhhmklaaFrameX
import Derived.Test.YtbflgckmhhmklaaTxM
namespace Go.Proofs.Ytbflgckmhhmklaa
open Go Go.RowKit Go.Lib Go.Proofs
set_option linter.unusedVariables false

theorem ways5 (a b c d e : Bool) : a = false ∨ (a = true ∧ b = true) ∨ (a = true ∧ b = false ∧ c = true) ∨ (a = true ∧ b = false ∧ c = false ∧ d = true) ∨ (a = true ∧ b = false ∧ c = false ∧ d = false ∧ e = true) ∨ (a = true ∧ b = false ∧ c = false ∧ d = false ∧ e = false) := by
  cases a <;> cases b <;> cases c <;> cases d <;> cases e <;> simp
/-- More base has no less tax, and at most as much more. -/
theorem rises_by {base more idx of al ex : Int} {f : Nat → Bd} {n : Nat} (hn : n ≤ 64) (hr : Rises f n) (h : okT base idx of al ex = true) (h2 : okT (base + more) idx of al ex = true) (hb : base ≤ 1099511627776) (hm : 0 ≤ more) (hm2 : more ≤ 1099511627776) :
    todV base idx of al ex f n ≤ todV (base + more) idx of al ex f n ∧ todV (base + more) idx of al ex f n ≤ todV base idx of al ex f n + more := by
  obtain ⟨⟨i0, i1, o1⟩, -⟩ := okT_iff.1 h
  obtain ⟨-, e1, -, -⟩ := tod_is hn hr h (by omega)
  obtain ⟨-, e2, -, -⟩ := tod_is hn hr h2 (by omega)
  rw [e1, e2]
  have hd : (base + more) * of - al * idx = (base * of - al * idx) + more * of := by rw [Int.add_mul]; omega
  have hp : 0 ≤ more * of := Int.mul_nonneg hm (by omega)
  obtain ⟨m1, m2⟩ := takes_mono hr (x := base * of - al * idx) (y := (base + more) * of - al * idx) (idx := idx) i0 (by omega)
  refine ⟨round_mono (by omega) m1, ?_⟩
  have h3 := round_mono (of := of) (by omega) (show takesV f n ((base + more) * of - al * idx) idx ≤ takesV f n (base * of - al * idx) idx + of * 1000000 * more by
    rw [show of * 1000000 * more = 1000000 * (more * of) by rw [Int.mul_comm of 1000000, Int.mul_assoc, Int.mul_comm of more]]; omega)
  rw [round_add _ more of (by omega)] at h3
  exact h3

set_option maxHeartbeats 8000000 in
set_option maxRecDepth 100000 in
theorem walkTaxRises (base more idx of al ex : Int) (p : Option Addr) (n cp : Nat) (f : Nat → Bd) (w : World) (_ : (Lit.int .i64 base).wf = true) (_ : (Lit.int .i64 more).wf = true) (_ : (Lit.int .i64 idx).wf = true) (_ : (Lit.int .i64 of).wf = true) (hc : CardArg w p n f) :
    Calls Try.prog 6 #[.int .i64 base, .int .i64 more, .int .i64 idx, .int .i64 of, .agg #[.int .i64 al, .int .i64 ex, .slice p n cp]] w fun e w' => e = .returned (.bool true) ∧ Below w.heap.size w w' := by
  obtain ⟨hn, hf⟩ := hc
  have hk0 : Below w.heap.size w (w.alloc (.cells #[.int .i64 al, .int .i64 ex, .slice p n cp] 25)) := (Below.refl _ _).alloc (Nat.le_refl _) _
  have hcd := Cd.new w al ex p n cp 25
  have HG := Lib.hid (fun W hb => right_any al ex p n cp f W hn (hf.kp (w' := W) hb))
  have HT := Lib.hid (fun (h : n ≤ 64) W hb => ToDate_any base idx of al ex p n cp f W (by omega) (hf.kp (w' := W) hb))
  have HU := Lib.hid (fun (h : n ≤ 64) W hb => ToDate_any (base + more) idx of al ex p n cp f W (by omega) (hf.kp (w' := W) hb))
  clear hf
  go_enter Try.func6, Try.ntmps6
  go_upto_region 1 with fail
  generalize (w.alloc (.cells #[.int .i64 al, .int .i64 ex, .slice p n cp] 25)) = W0 at hk0 hcd ⊢
  have HC := Lib.hid hcd
  obtain ⟨s0, s1, s2⟩ := hcd
  go_wp2_with fail
  refine (HG.out _ hk0).mono ?_
  intro e w1 hp
  obtain ⟨b, rfl, hR, hb1⟩ := hp
  have hk1 : Below w.heap.size w w1 := hk0.trans (hb1.mono hk0.size)
  replace HC := Lib.hid (HC.out.kp hb1)
  clear s0 s1 s2
  obtain ⟨s0, s1, s2⟩ := HC.out
  rcases ways5 b (decide (1099511627776 < base)) (decide (base < -1099511627776)) (decide (more < 0)) (decide (1099511627776 < more)) with d1 | ⟨d1, d2⟩ | ⟨d1, d2, d3⟩ | ⟨d1, d2, d3, d4⟩ | ⟨d1, d2, d3, d4, d5⟩ | ⟨d1, d2, d3, d4, d5⟩
  case inr.inr.inr.inr.inr =>
    obtain ⟨hn64, hr, -, ⟨a0, a1⟩, x0, x1⟩ := hR d1
    subst d1
    have b1 := of_decide_eq_false d2
    have b2 := of_decide_eq_false d3
    have b3 := of_decide_eq_false d4
    have b4 := of_decide_eq_false d5
    by_cases hi : (decide (1 ≤ idx) && (decide (idx ≤ of) && decide (of ≤ 400))) = true
    case pos =>
      have ok1 : okT base idx of al ex = true := by rw [okT_by (by omega) (by omega) (by omega)]; exact hi
      have ok2 : okT (base + more) idx of al ex = true := by rw [okT_by (by omega) (by omega) (by omega)]; exact hi
      obtain ⟨m1, m2⟩ := rises_by hn64 hr ok1 ok2 (by omega) (by omega) (by omega)
      obtain ⟨E1, -, v0, v1⟩ := tod_is hn64 hr ok1 (by omega)
      obtain ⟨E2, -, -, -⟩ := tod_is hn64 hr ok2 (by omega)
      rw [E1] at HT
      rw [E2] at HU
      clear hi ok1 ok2 E1 E2
      generalize todV base idx of al ex f n = V at *
      generalize todV (base + more) idx of al ex f n = U at *
      go_wp2_with fail
      refine (HT.out hn64 _ hk1).mono ?_
      rintro e w2 ⟨rfl, hb2⟩
      have hk2 : Below w.heap.size w w2 := hk1.trans (hb2.mono hk1.size)
      clear s0 s1 s2
      obtain ⟨s0, s1, s2⟩ := HC.out.kp hb2
      go_wp2_with fail
      refine (HU.out hn64 _ hk2).mono ?_
      rintro e w3 ⟨rfl, hb3⟩
      have hk3 : Below w.heap.size w w3 := hk2.trans (hb3.mono hk2.size)
      clear s0 s1 s2
      go_wp2_with fail
      refine (awake_any _).mono ?_
      rintro e w4 ⟨rfl, hb4⟩
      have g1 : decide (V ≤ max base 0) = true := decide_eq_true v1
      have g2 : U - V ≤ more + 1 := by omega
      go_wp2
      go_ret
      exact ⟨rfl, hk3.trans (hb4.mono hk3.size)⟩
    case neg =>
      rw [Bool.not_eq_true] at hi
      have ok1 : okT base idx of al ex = false := by rw [okT_by (by omega) (by omega) (by omega)]; exact hi
      have ok2 : okT (base + more) idx of al ex = false := by rw [okT_by (by omega) (by omega) (by omega)]; exact hi
      obtain ⟨E1, V1⟩ := tod_bad (f := f) (n := n) ok1
      obtain ⟨E2, V2⟩ := tod_bad (f := f) (n := n) ok2
      rw [E1, V1] at HT
      rw [E2, V2] at HU
      have hw : (decide (idx < 1) = true) ∨ (decide (idx < 1) = false ∧ decide (of < idx) = true) ∨ (decide (idx < 1) = false ∧ decide (of < idx) = false ∧ decide (400 < of) = true) := by
        simp only [Bool.and_eq_false_iff, decide_eq_false_iff_not] at hi
        simp only [decide_eq_true_eq, decide_eq_false_iff_not]
        omega
      clear hi ok1 ok2 E1 E2 V1 V2
      go_wp2_with fail
      refine (HT.out hn64 _ hk1).mono ?_
      rintro e w2 ⟨rfl, hb2⟩
      have hk2 : Below w.heap.size w w2 := hk1.trans (hb2.mono hk1.size)
      clear s0 s1 s2
      obtain ⟨s0, s1, s2⟩ := HC.out.kp hb2
      go_wp2_with fail
      refine (HU.out hn64 _ hk2).mono ?_
      rintro e w3 ⟨rfl, hb3⟩
      have hk3 : Below w.heap.size w w3 := hk2.trans (hb3.mono hk2.size)
      clear s0 s1 s2
      go_wp2_with fail
      refine (awake_any _).mono ?_
      rintro e w4 ⟨rfl, hb4⟩
      rcases hw with d6 | ⟨d6, d7⟩ | ⟨d6, d7, d8⟩
      all_goals
        go_wp2
        go_ret
        exact ⟨rfl, hk3.trans (hb4.mono hk3.size)⟩
  all_goals
    subst d1
    go_wp2_with fail
    refine (awake_any _).mono ?_
    rintro e w4 ⟨rfl, hb4⟩
    go_wp2
    go_ret
    exact ⟨rfl, hk1.trans (hb4.mono hk1.size)⟩

end Go.Proofs.Ytbflgckmhhmklaa
