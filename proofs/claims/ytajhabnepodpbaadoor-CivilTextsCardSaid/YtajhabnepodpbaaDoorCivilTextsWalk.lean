/-
  What is proved: the walk of the statement CivilTexts: the call returns true. Conditions: the table of months' lengths reads as its text lays it.
-/
import Derived.Test.YtajhabnepodpbaaDoorCivWalk
import Derived.Test.YtajhabnepodpbaaDoorCivRef4
namespace Go.Proofs.YtajhabnepodpbaaDoor
open Go Go.RowKit Go.Proofs
set_option linter.unusedVariables false

set_option maxHeartbeats 1000000 in
set_option maxRecDepth 100000 in
theorem walkCivilTexts (N : Int) (w : World) (w0 : (Lit.int .i64 N).wf = true) (hL : Len w) :
    Calls Tryd.prog 6 #[.int .i64 N] w fun e w' => e = .returned (.bool true) ∧ Below w.heap.size w w' := by
  have HI := rin_any N
  cases hin : inB N with
  | false =>
    rw [hin] at HI
    have HI := Lib.hid HI
    have HX := Lib.hid (text_no N hin)
    clear hin w0
    go_enter Tryd.func6, Tryd.ntmps6
    go_wp2_with fail
    refine (HX.out _).mono ?_
    rintro e w1 ⟨rfl, hb1⟩
    go_wp2_with fail
    refine (HI.out _).mono ?_
    rintro e w' ⟨rfl, rfl⟩
    go_wp2_with fail
    refine (awake_on hL hb1 (Nat.le_refl _) hb1.size).mono ?_
    rintro e w4 ⟨rfl, hb5⟩
    go_wp2
    go_ret
    exact ⟨rfl, hb5⟩
  | true =>
    rw [hin] at HI
    obtain ⟨b1, b2⟩ := inB_iff.1 hin
    obtain ⟨y, m, d, hok, hnum⟩ := date_of N b1 b2
    have HI := Lib.hid HI
    have HX := text_yes y m d N hok hnum
    have HR := rtext_yes y m d N hok hnum
    have HP := parse_any ⟨(textL y m d).toArray⟩
    have e1 : (ByteArray.mk (textL y m d).toArray).data.toList = textL y m d := rfl
    rw [e1, (parse_text hok).1, (parse_text hok).2, hnum] at HP
    generalize ByteArray.mk (textL y m d).toArray = s at HX HR HP
    have HX := Lib.hid HX
    have HR := Lib.hid HR
    have HP := Lib.hid HP
    clear hin w0 hok hnum e1
    go_enter Tryd.func6, Tryd.ntmps6
    go_wp2_with fail
    refine (HX.out _ hL).mono ?_
    rintro e w1 ⟨rfl, hb1⟩
    have hL1 := hL.below hb1 (Nat.le_refl _)
    go_wp2_with fail
    refine (HI.out _).mono ?_
    rintro e w' ⟨rfl, rfl⟩
    go_wp2_with fail
    refine (HP.out _ hL1).mono ?_
    rintro e w2 ⟨rfl, hb2⟩
    have hb3 := hb1.trans (hb2.mono hb1.size)
    clear hb1 hb2 hL1
    go_wp2_with fail
    refine (HR.out _).mono ?_
    rintro e w3 ⟨rfl, hb4⟩
    have hb5 := hb3.trans (hb4.mono hb3.size)
    clear hb3 hb4
    go_wp2_with fail
    refine (awake_on hL hb5 (Nat.le_refl _) hb5.size).mono ?_
    rintro e w4 ⟨rfl, hb6⟩
    go_wp2
    go_ret
    exact ⟨rfl, hb6⟩

end Go.Proofs.YtajhabnepodpbaaDoor
