/-
  What is proved: the walk of the statement TaxDates: the call returns true. Conditions: what came in is as the frame says.
-/
import Derived.Test.YtbflgckmhhmklaaFrameX
namespace Go.Proofs.Ytbflgckmhhmklaa
open Go Go.RowKit Go.Lib Go.Proofs
set_option linter.unusedVariables false

set_option maxHeartbeats 8000000 in
set_option maxRecDepth 100000 in
theorem walkTaxDates (base idx of al ex : Int) (p : Option Addr) (n cp : Nat) (f : Nat → Bd) (w : World) (_ : (Lit.int .i64 base).wf = true) (_ : (Lit.int .i64 idx).wf = true) (_ : (Lit.int .i64 of).wf = true) (hc : CardArg w p n f) :
    Calls Try.prog 4 #[.int .i64 base, .int .i64 idx, .int .i64 of, .agg #[.int .i64 al, .int .i64 ex, .slice p n cp]] w fun e w' => e = .returned (.bool true) ∧ Below w.heap.size w w' := by
  obtain ⟨hn, hf⟩ := hc
  have hk0 : Below w.heap.size w (w.alloc (.cells #[.int .i64 al, .int .i64 ex, .slice p n cp] 25)) := (Below.refl _ _).alloc (Nat.le_refl _) _
  have hcd := Cd.new w al ex p n cp 25
  have HT := Lib.hid (fun (h : n ≤ 100) W hb => ToDate_any base idx of al ex p n cp f W (by omega) (hf.kp (w' := W) hb))
  have HR := Lib.hid (fun (h : n ≤ 100) W hb => rToDate_any base idx of al ex p n cp f W (by omega) (hf.kp (w' := W) hb))
  have HY := Lib.hid (fun (h : n ≤ 100) W hb => Yearly_any base al ex p n cp f W (by omega) (hf.kp (w' := W) hb))
  have HR1 := Lib.hid (fun (h : n ≤ 100) W hb => rToDate_any base 1 1 al ex p n cp f W (by omega) (hf.kp (w' := W) hb))
  have HS := Lib.hid (fun (h : n ≤ 100) W hb => Single_any base of al ex p n cp f W (by omega) (hf.kp (w' := W) hb))
  have HQ := Lib.hid (fun (h : n ≤ 100) W hb => rSingle_any base of al ex p n cp f W (by omega) (hf.kp (w' := W) hb))
  generalize todV base idx of al ex f n = V at HT HR
  generalize todE base idx of al ex f n = E at HT HR
  generalize todV base 1 1 al ex f n = V1 at HY HR1
  generalize todE base 1 1 al ex f n = E1 at HY HR1
  generalize sngV base of al ex f n = V2 at HS HQ
  generalize sngE base of al ex f n = E2 at HS HQ
  clear hf
  go_enter Try.func4, Try.ntmps4
  go_upto_region 1 with fail
  generalize (w.alloc (.cells #[.int .i64 al, .int .i64 ex, .slice p n cp] 25)) = W0 at hk0 hcd ⊢
  have HC := Lib.hid hcd
  obtain ⟨s0, s1, s2⟩ := hcd
  by_cases hl : n ≤ 100
  case neg =>
    have i1 : ¬ (n : Int) ≤ 100 := by omega
    go_wp2_with fail
    refine (awake_any _).mono ?_
    rintro e w1 ⟨rfl, hb1⟩
    go_wp2
    go_ret
    exact ⟨rfl, hk0.trans (hb1.mono hk0.size)⟩
  case pos =>
  have i1 : (n : Int) ≤ 100 := by omega
  go_wp2_with fail
  refine (HT.out hl _ hk0).mono ?_
  rintro e w1 ⟨rfl, hb1⟩
  have hk1 : Below w.heap.size w w1 := hk0.trans (hb1.mono hk0.size)
  replace HC := Lib.hid (HC.out.kp hb1)
  clear s0 s1 s2
  obtain ⟨s0, s1, s2⟩ := HC.out
  go_wp2_with fail
  refine (HR.out hl _ hk1).mono ?_
  rintro e w2 ⟨rfl, hb2⟩
  have hk2 : Below w.heap.size w w2 := hk1.trans (hb2.mono hk1.size)
  replace HC := Lib.hid (HC.out.kp hb2)
  clear s0 s1 s2
  obtain ⟨s0, s1, s2⟩ := HC.out
  go_wp2_with fail
  refine (HY.out hl _ hk2).mono ?_
  rintro e w3 ⟨rfl, hb3⟩
  have hk3 : Below w.heap.size w w3 := hk2.trans (hb3.mono hk2.size)
  replace HC := Lib.hid (HC.out.kp hb3)
  clear s0 s1 s2
  obtain ⟨s0, s1, s2⟩ := HC.out
  go_wp2_with fail
  refine (HR1.out hl _ hk3).mono ?_
  rintro e w4 ⟨rfl, hb4⟩
  have hk4 : Below w.heap.size w w4 := hk3.trans (hb4.mono hk3.size)
  replace HC := Lib.hid (HC.out.kp hb4)
  clear s0 s1 s2
  obtain ⟨s0, s1, s2⟩ := HC.out
  go_wp2_with fail
  refine (HS.out hl _ hk4).mono ?_
  rintro e w5 ⟨rfl, hb5⟩
  have hk5 : Below w.heap.size w w5 := hk4.trans (hb5.mono hk4.size)
  replace HC := Lib.hid (HC.out.kp hb5)
  clear s0 s1 s2
  obtain ⟨s0, s1, s2⟩ := HC.out
  go_wp2_with fail
  refine (HQ.out hl _ hk5).mono ?_
  rintro e w6 ⟨rfl, hb6⟩
  have hk6 : Below w.heap.size w w6 := hk5.trans (hb6.mono hk5.size)
  replace HC := Lib.hid (HC.out.kp hb6)
  clear s0 s1 s2
  obtain ⟨s0, s1, s2⟩ := HC.out
  go_wp2_with fail
  refine (awake_any _).mono ?_
  rintro e w7 ⟨rfl, hb7⟩
  have hk7 : Below w.heap.size w w7 := hk6.trans (hb7.mono hk6.size)
  replace HC := Lib.hid (HC.out.kp hb7)
  clear s0 s1 s2
  go_wp2
  go_ret
  exact ⟨rfl, hk7⟩

end Go.Proofs.Ytbflgckmhhmklaa
