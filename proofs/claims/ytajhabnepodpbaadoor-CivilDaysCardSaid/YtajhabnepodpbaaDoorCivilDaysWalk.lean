/-
  What is proved: the walk of the statement CivilDays: the call returns true. Conditions: the table of months' lengths reads as its text lays it.
-/
import Derived.Test.YtajhabnepodpbaaDoorCivWalk
namespace Go.Proofs.YtajhabnepodpbaaDoor
open Go Go.RowKit Go.Proofs
set_option linter.unusedVariables false

set_option maxHeartbeats 1000000 in
set_option maxRecDepth 100000 in
theorem walkCivilDays (N : Int) (w : World) (w0 : (Lit.int .i64 N).wf = true) (hL : Len w) :
    Calls Tryd.prog 4 #[.int .i64 N] w fun e w' => e = .returned (.bool true) ∧ Below w.heap.size w w' := by
  have HI := rin_any N
  have HK := wk_any N
  cases hin : inB N with
  | false =>
    rw [hin] at HI
    rw [show wkV N = -1 by simp [wkV, hin]] at HK
    have HI := Lib.hid HI
    have HK := Lib.hid HK
    have HT := Lib.hid (to_no N hin)
    have HX := Lib.hid (text_no N hin)
    clear hin w0
    go_enter Tryd.func4, Tryd.ntmps4
    go_wp2_with fail
    refine (HT.out _).mono ?_
    rintro e w1 ⟨rfl, hb1⟩
    go_wp2_with fail
    refine (HK.out _).mono ?_
    rintro e w' ⟨rfl, rfl⟩
    go_wp2_with fail
    refine (HI.out _).mono ?_
    rintro e w' ⟨rfl, rfl⟩
    have hz := hb1.size
    have hb2 := hb1.alloc hb1.size (.cells #[.int .i64 0, .int .i64 0, .int .i64 0] 23)
    clear hb1
    go_wp2_with fail
    refine (HX.out _).mono ?_
    rintro e w3 ⟨rfl, hb3⟩
    have hb4 := hb2.trans (hb3.mono hb2.size)
    have hz3 := hb4.size
    clear hb2 hb3
    go_wp2_with fail
    refine (awake_on hL hb4 (Nat.le_refl _) hz3).mono ?_
    rintro e w4 ⟨rfl, hb5⟩
    go_wp2
    go_ret
    exact ⟨rfl, hb5⟩
  | true =>
    rw [hin] at HI
    obtain ⟨b1, b2⟩ := inB_iff.1 hin
    obtain ⟨y, m, d, hok, hnum⟩ := date_of N b1 b2
    have HR := rwk_any N b1 b2
    have HI := Lib.hid HI
    generalize wkV N = k at HK HR
    have HK := Lib.hid HK
    have HR := Lib.hid HR
    have HT := Lib.hid (to_yes y m d N hok hnum)
    have HT2 := Lib.hid (rto_yes y m d N hok hnum)
    have HO := of_yes y m d hok
    rw [hnum] at HO
    have HO := Lib.hid HO
    clear hin w0 hok hnum
    go_enter Tryd.func4, Tryd.ntmps4
    go_wp2_with fail
    refine (HT.out _ hL).mono ?_
    rintro e w1 ⟨rfl, hb1⟩
    go_wp2_with fail
    refine (HK.out _).mono ?_
    rintro e w' ⟨rfl, rfl⟩
    go_wp2_with fail
    refine (HI.out _).mono ?_
    rintro e w' ⟨rfl, rfl⟩
    have hz := hb1.size
    have hb2 := hb1.alloc hb1.size (.cells #[.int .i64 y, .int .i64 m, .int .i64 d] 23)
    obtain ⟨c0, c1, c2⟩ := new3 w1 (.int .i64 y) (.int .i64 m) (.int .i64 d) 23
    have hg : w1.heap.size < (w1.alloc (.cells #[.int .i64 y, .int .i64 m, .int .i64 d] 23)).heap.size := by simp
    clear hb1
    go_wp2_with fail
    generalize w1.heap.size = g at hz c0 c1 c2 hg ⊢
    generalize w1.alloc (.cells #[.int .i64 y, .int .i64 m, .int .i64 d] 23) = w2 at hb2 c0 c1 c2 hg ⊢
    refine (HT2.out _).mono ?_
    rintro e w3 ⟨rfl, hb3⟩
    have hb4 := hb2.trans (hb3.mono hb2.size)
    have hL4 := hL.below hb4 (Nat.le_refl _)
    have c0' := (bcell hb3 g 0 hg).trans c0
    have c1' := (bcell hb3 g 1 hg).trans c1
    have c2' := (bcell hb3 g 2 hg).trans c2
    have hg' : g < w3.heap.size := Nat.lt_of_lt_of_le hg hb3.size
    have hz3 := hb4.size
    clear hb2 hb3 c0 c1 c2 hg
    have hb5 := hb4.alloc hb4.size (.cells #[.int .i64 y, .int .i64 m, .int .i64 d] 30)
    have hL5 := hL4.alloc (.cells #[.int .i64 y, .int .i64 m, .int .i64 d] 30)
    obtain ⟨x0, x1, x2⟩ := new3 w3 (.int .i64 y) (.int .i64 m) (.int .i64 d) 30
    have z0 := (World.cell?_alloc_lt w3 (.cells #[.int .i64 y, .int .i64 m, .int .i64 d] 30) ⟨g, 0, none⟩ hg').trans c0'
    have z1 := (World.cell?_alloc_lt w3 (.cells #[.int .i64 y, .int .i64 m, .int .i64 d] 30) ⟨g, 1, none⟩ hg').trans c1'
    have z2 := (World.cell?_alloc_lt w3 (.cells #[.int .i64 y, .int .i64 m, .int .i64 d] 30) ⟨g, 2, none⟩ hg').trans c2'
    have hh : w3.heap.size < (w3.alloc (.cells #[.int .i64 y, .int .i64 m, .int .i64 d] 30)).heap.size := by simp
    clear hb4 hL4
    go_wp2_with fail
    generalize w3.heap.size = h at hg' hz3 x0 x1 x2 hh ⊢
    generalize w3.alloc (.cells #[.int .i64 y, .int .i64 m, .int .i64 d] 30) = w4 at hb5 hL5 x0 x1 x2 z0 z1 z2 hh ⊢
    refine (HO.out _ hL5).mono ?_
    rintro e w6 ⟨rfl, hb6⟩
    have hb7 := hb5.trans (hb6.mono hb5.size)
    have u0 := (bcell hb6 g 0 (by omega)).trans z0
    have u1 := (bcell hb6 g 1 (by omega)).trans z1
    have u2 := (bcell hb6 g 2 (by omega)).trans z2
    have v0 := (bcell hb6 h 0 hh).trans x0
    have v1 := (bcell hb6 h 1 hh).trans x1
    have v2 := (bcell hb6 h 2 hh).trans x2
    clear hb5 hb6 hL5 x0 x1 x2 z0 z1 z2 c0' c1' c2'
    go_wp2_with fail
    refine (HR.out _).mono ?_
    rintro e w' ⟨rfl, rfl⟩
    go_wp2_with fail
    refine (awake_on hL hb7 (Nat.le_refl _) hb7.size).mono ?_
    rintro e w8 ⟨rfl, hb8⟩
    go_wp2
    go_ret
    exact ⟨rfl, hb8⟩

end Go.Proofs.YtajhabnepodpbaaDoor
