/-
  What is proved: the walk of the statement CivilMonths: the call returns true. Conditions: the table of months' lengths reads as its text lays it.
-/
import Derived.Test.YtajhabnepodpbaaDoorCivWalk
import Derived.Test.YtajhabnepodpbaaDoorCivRef3
namespace Go.Proofs.YtajhabnepodpbaaDoor
open Go Go.RowKit Go.Proofs
set_option linter.unusedVariables false

set_option maxHeartbeats 1000000 in
set_option maxRecDepth 100000 in
theorem walkCivilMonths (N n : Int) (w : World) (w0 : (Lit.int .i64 N).wf = true) (w1 : (Lit.int .i64 n).wf = true) (hL : Len w) :
    Calls Tryd.prog 5 #[.int .i64 N, .int .i64 n] w fun e w' => e = .returned (.bool true) ∧ Below w.heap.size w w' := by
  have HI := rin_any N
  obtain ⟨n1, n2⟩ := bounds_i64 w1
  cases hin : inB N with
  | false =>
    rw [hin] at HI
    have HI := Lib.hid HI
    have HA := Lib.hid (add_no N n hin)
    clear hin w0 w1
    go_enter Tryd.func5, Tryd.ntmps5
    go_wp2_with fail
    refine (HA.out _).mono ?_
    rintro e w1 ⟨rfl, hb1⟩
    go_wp2_with fail
    refine (HI.out _).mono ?_
    rintro e w' ⟨rfl, rfl⟩
    go_wp2_with fail
    refine (awake_on hL hb1 (Nat.le_refl _) hb1.size).mono ?_
    rintro e w8 ⟨rfl, hb8⟩
    go_wp2
    go_ret
    exact ⟨rfl, hb8⟩
  | true =>
    rw [hin] at HI
    obtain ⟨b1, b2⟩ := inB_iff.1 hin
    obtain ⟨y, m, d, hok, hnum⟩ := date_of N b1 b2
    have HI := Lib.hid HI
    have HA := add_yes y m d N n hok hnum n1 n2
    have HR := radd_any y m d N n hok hnum
    generalize addM y m d n = R at HA HR
    have HA := Lib.hid HA
    have HR := Lib.hid HR
    clear hin w0 w1 hok hnum
    go_enter Tryd.func5, Tryd.ntmps5
    go_wp2_with fail
    refine (HA.out _ hL).mono ?_
    rintro e w1 ⟨rfl, hb1⟩
    go_wp2_with fail
    refine (HI.out _).mono ?_
    rintro e w' ⟨rfl, rfl⟩
    go_wp2_with fail
    refine (HR.out _).mono ?_
    rintro e w2 ⟨rfl, hb2⟩
    have hb3 := hb1.trans (hb2.mono hb1.size)
    go_wp2_with fail
    refine (awake_on hL hb3 (Nat.le_refl _) hb3.size).mono ?_
    rintro e w8 ⟨rfl, hb8⟩
    go_wp2
    go_ret
    exact ⟨rfl, hb8⟩

end Go.Proofs.YtajhabnepodpbaaDoor
