/-
  What is proved: the walk of the statement RateRises: the call returns true. Conditions: the table of powers of ten reads as the library lays it.
-/
import Derived.Test.YthdjpkpkkdnofabDoorRateTell
import Derived.Test.YthdjpkpkkdnofabDoorPartLaws
namespace Go.Proofs.YthdjpkpkkdnofabDoor
open Go Go.RowKit Go.Lib Go.Proofs
set_option linter.unusedVariables false

theorem part_bd (c num den mode : Int) : -1125899906842624 ≤ (partVE c num den mode).1 ∧ (partVE c num den mode).1 ≤ 1125899906842624 := by
  by_cases h : (partVE c num den mode).2 = 0
  · obtain ⟨_, _, _, _, h1, h2⟩ := partVE_ok c num den mode h
    rw [h2]; omega
  · rw [partVE_err c num den mode h]; omega
theorem rises_amount (c more num den m : Int) (hn : 0 ≤ num) (hc : c ≤ more) (h1 : (partVE c num den m).2 = 0) (h2 : (partVE more num den m).2 = 0) : (partVE c num den m).1 ≤ (partVE more num den m).1 := by
  obtain ⟨_, _, _, _, _, e1⟩ := partVE_ok c num den m h1
  obtain ⟨_, _, _, _, _, e2⟩ := partVE_ok more num den m h2
  rw [e1, e2]
  exact rnd_rises m _ _ _ (Int.mul_le_mul_of_nonneg_right hc hn)
theorem rises_num (c num up den m : Int) (hc : 0 ≤ c) (hn : num ≤ up) (h1 : (partVE c num den m).2 = 0) (h2 : (partVE c up den m).2 = 0) : (partVE c num den m).1 ≤ (partVE c up den m).1 := by
  obtain ⟨_, _, _, _, _, e1⟩ := partVE_ok c num den m h1
  obtain ⟨_, _, _, _, _, e2⟩ := partVE_ok c up den m h2
  rw [e1, e2]
  exact rnd_rises m _ _ _ (Int.mul_le_mul_of_nonneg_left hn hc)

set_option maxHeartbeats 2000000 in
set_option maxRecDepth 100000 in
theorem walkRateRises (c more num up den mode : Int) (w : World) (w0 : (Lit.int .i64 c).wf = true) (w1 : (Lit.int .i64 more).wf = true) (w2 : (Lit.int .i64 num).wf = true) (w3 : (Lit.int .i64 up).wf = true) (w4 : (Lit.int .i64 den).wf = true) (w5 : (Lit.int .u8 mode).wf = true) (htab : TabIs Tryd.prog w "internal/strconv.uint64pow10" .u64 pow10Tab) :
    Calls Tryd.prog 5 #[.int .i64 c, .int .i64 more, .int .i64 num, .int .i64 up, .int .i64 den, .int .u8 mode] w fun e w' => e = .returned (.bool true) ∧ Below w.heap.size w w' := by
  have HW := Lib.hid (awake2 w htab)
  obtain ⟨n1, n2⟩ := bounds_i64 w2
  obtain ⟨u1, u2⟩ := bounds_i64 w3
  obtain ⟨-, d2⟩ := bounds_i64 w4
  obtain ⟨m1, m2⟩ := bounds_u8 w5
  clear w0 w1 w2 w3 w4 w5
  by_cases h1 : num < 0
  · go_enter Tryd.func5, Tryd.ntmps5
    go_wp2_with fail
    refine (HW.out).mono ?_
    rintro e' wa ⟨rfl, hba⟩
    go_wp2
    go_ret
    exact ⟨rfl, hba⟩
  by_cases h2 : up < num
  · go_enter Tryd.func5, Tryd.ntmps5
    go_wp2_with fail
    refine (HW.out).mono ?_
    rintro e' wa ⟨rfl, hba⟩
    go_wp2
    go_ret
    exact ⟨rfl, hba⟩
  by_cases h3 : more < c
  · go_enter Tryd.func5, Tryd.ntmps5
    go_wp2_with fail
    refine (HW.out).mono ?_
    rintro e' wa ⟨rfl, hba⟩
    go_wp2
    go_ret
    exact ⟨rfl, hba⟩
  obtain ⟨a, ea, ha⟩ : ∃ x e, partVE c num den (mode % 5) = (x, e) := ⟨_, _, rfl⟩
  obtain ⟨b, eb, hb⟩ : ∃ x e, partVE more num den (mode % 5) = (x, e) := ⟨_, _, rfl⟩
  obtain ⟨d, ed, hd⟩ : ∃ x e, partVE c up den (mode % 5) = (x, e) := ⟨_, _, rfl⟩
  have t1 := fun W => part_any c num den (mode % 5) n1 n2 d2 W
  have t2 := fun W => part_any more num den (mode % 5) n1 n2 d2 W
  have t3 := fun W => part_any c up den (mode % 5) u1 u2 d2 W
  have r0 := partVE_err c num den (mode % 5)
  have r1 := rises_amount c more num den (mode % 5) (by omega) (by omega)
  have r2 := fun h => rises_num c num up den (mode % 5) h (by omega)
  simp only [ha, hb, hd] at t1 t2 t3 r0 r1 r2
  have H1 := Lib.hid t1
  have H2 := Lib.hid t2
  have H3 := Lib.hid t3
  have R0 := Lib.hid r0
  have R1 := Lib.hid r1
  have R2 := Lib.hid r2
  clear t1 t2 t3 r0 r1 r2 ha hb hd
  go_enter Tryd.func5, Tryd.ntmps5
  go_wp2_with fail
  refine (HW.out).mono ?_
  rintro e' wa ⟨rfl, hba⟩
  go_wp2_with fail
  refine (H1.out _).mono ?_
  rintro e' wb ⟨rfl, hbb⟩
  have k1 := hba.trans (hbb.mono hba.size)
  go_wp2_with fail
  refine (H2.out _).mono ?_
  rintro e' wc ⟨rfl, hbc⟩
  have k2 := k1.trans (hbc.mono k1.size)
  go_wp2_with fail
  refine (H3.out _).mono ?_
  rintro e' wd ⟨rfl, hbd⟩
  have k3 := k2.trans (hbd.mono k2.size)
  by_cases e1 : ea = 0
  case neg =>
    have e1b : (ea != 0) = true := by rw [bne_iff_ne]; exact e1
    obtain rfl : a = 0 := R0.out e1
    go_wp2
    go_ret
    exact ⟨rfl, k3⟩
  have e1b : (ea != 0) = false := by rw [e1]; rfl
  have hbge : (eb != 0) = true ∨ ((eb != 0) = false ∧ a ≤ b) := by
    by_cases h : eb = 0
    · right; exact ⟨by rw [h]; rfl, R1.out e1 h⟩
    · left; rw [bne_iff_ne]; exact h
  have hdge : (ed != 0) = true ∨ ((ed != 0) = false ∧ c < 0) ∨ ((ed != 0) = false ∧ ¬ c < 0 ∧ a ≤ d) := by
    by_cases h : ed = 0
    · right
      have hz : (ed != 0) = false := by rw [h]; rfl
      by_cases hc : c < 0
      · left; exact ⟨hz, hc⟩
      · right; exact ⟨hz, hc, R2.out (by omega) e1 h⟩
    · left; rw [bne_iff_ne]; exact h
  clear R0 R1 R2 e1
  rcases hbge with g1 | ⟨g1, g2⟩
  · rcases hdge with f1 | ⟨f1, f2⟩ | ⟨f1, f2, f3⟩
    all_goals
      go_wp2
      go_ret
      exact ⟨rfl, k3⟩
  · rcases hdge with f1 | ⟨f1, f2⟩ | ⟨f1, f2, f3⟩
    all_goals
      go_wp2
      go_ret
      exact ⟨rfl, k3⟩

end Go.Proofs.YthdjpkpkkdnofabDoor
