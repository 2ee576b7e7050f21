/-
  What is proved: the walk of the statement RatePart: the call returns true. Conditions: the table of powers of ten reads as the library lays it.
-/
import Derived.Test.YthdjpkpkkdnofaaDoorRateTell
import Derived.Test.YthdjpkpkkdnofaaDoorRefPart2
namespace Go.Proofs.YthdjpkpkkdnofaaDoor
open Go Go.RowKit Go.Lib Go.Proofs
set_option linter.unusedVariables false

theorem partE_bd (c num den mode : Int) : 0 ≤ (partVE c num den mode).2 ∧ (partVE c num den mode).2 ≤ 22 := by
  unfold partVE
  repeat' split
  all_goals simp

set_option maxHeartbeats 1000000 in
set_option maxRecDepth 100000 in
theorem walkRatePart (c num den mode : Int) (w : World) (w0 : (Lit.int .i64 c).wf = true) (w1 : (Lit.int .i64 num).wf = true) (w2 : (Lit.int .i64 den).wf = true) (w3 : (Lit.int .i64 mode).wf = true) (htab : TabIs Tryd.prog w "internal/strconv.uint64pow10" .u64 pow10Tab) :
    Calls Tryd.prog 10 #[.int .i64 c, .int .i64 num, .int .i64 den, .int .i64 mode] w fun e w' => e = .returned (.bool true) ∧ Below w.heap.size w w' := by
  have HW := Lib.hid (awake2 w htab)
  obtain ⟨n1, n2⟩ := bounds_i64 w1
  obtain ⟨-, d2⟩ := bounds_i64 w2
  clear w0 w1 w2 w3
  obtain ⟨x, ex, hx⟩ : ∃ x e, partVE c num den mode = (x, e) := ⟨_, _, rfl⟩
  have bd := partE_bd c num den mode
  have t1 := fun W => part_any c num den mode n1 n2 d2 W
  have t2 := fun W => rpart_any c num den mode n1 n2 d2 W
  simp only [hx] at t1 t2 bd
  obtain ⟨b1, b2⟩ := bd
  have H1 := Lib.hid t1
  have H2 := Lib.hid t2
  clear t1 t2 hx
  go_enter Tryd.func10, Tryd.ntmps10
  go_wp2_with fail
  refine (HW.out).mono ?_
  rintro e' wa ⟨rfl, hba⟩
  go_wp2_with fail
  refine (H1.out _).mono ?_
  rintro e' wb ⟨rfl, hbb⟩
  have k1 := hba.trans (hbb.mono hba.size)
  go_wp2_with fail
  refine (H2.out _).mono ?_
  rintro e' wc ⟨rfl, hbc⟩
  have k2 := k1.trans (hbc.mono k1.size)
  go_wp2
  go_ret
  exact ⟨rfl, k2⟩

end Go.Proofs.YthdjpkpkkdnofaaDoor
