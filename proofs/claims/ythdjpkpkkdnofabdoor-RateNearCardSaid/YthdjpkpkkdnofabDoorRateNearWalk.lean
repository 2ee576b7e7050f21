/-
  What is proved: the walk of the statement RateNear: the call returns true. Conditions: the table of powers of ten reads as the library lays it.
-/
import Derived.Test.YthdjpkpkkdnofabDoorRateTell
import Derived.Test.YthdjpkpkkdnofabDoorPartLaws
namespace Go.Proofs.YthdjpkpkkdnofabDoor
open Go Go.RowKit Go.Lib Go.Proofs
set_option linter.unusedVariables false

theorem part_bd (c num den mode : Int) : -1125899906842624 ≤ (partVE c num den mode).1 ∧ (partVE c num den mode).1 ≤ 1125899906842624 := by
  by_cases h : (partVE c num den mode).2 = 0
  · obtain ⟨_, _, _, _, h1, h2⟩ := partVE_ok c num den mode h
    rw [h2]; omega
  · rw [partVE_err c num den mode h]; omega
/-- There and back again. -/
theorem near_fact (c num den : Int) (hn : 0 < num) (hd : 0 < den) (h1 : (partVE c num den 1).2 = 0) (h2 : (partVE (partVE c num den 1).1 den num 1).2 = 0) :
    (partVE (partVE c num den 1).1 den num 1).1 - c ≤ den / num + 2 ∧ -(den / num + 2) ≤ (partVE (partVE c num den 1).1 den num 1).1 - c := by
  obtain ⟨_, _, _, _, _, e1⟩ := partVE_ok c num den 1 h1
  obtain ⟨_, _, _, _, _, e2⟩ := partVE_ok _ den num 1 h2
  rw [e2]
  have k1 := rnd_half den.toNat (c * num) (by omega)
  have k2 := rnd_half num.toNat ((partVE c num den 1).1 * den) (by omega)
  rw [e1] at k2 ⊢
  generalize rnd 1 den.toNat (c * num) = a at k1 k2 ⊢
  generalize rnd 1 num.toNat (a * den) = b at k2 ⊢
  rw [Int.toNat_of_nonneg (by omega)] at k1 k2
  have q1 := Int.emod_add_mul_ediv den num
  have q2 := Int.emod_lt_of_pos den hn
  have q3 := Int.emod_nonneg den (show num ≠ 0 by omega)
  have q4 : 0 ≤ den / num := Int.ediv_nonneg (by omega) (by omega)
  generalize den / num = k at q1 q4 ⊢
  generalize den % num = r at q1 q2 q3
  have e : (b - c) * num = b * num - c * num := Int.sub_mul b c num
  have bound1 : 2 * ((b - c) * num) ≤ num + den := by omega
  have bound2 : -(num + den) ≤ 2 * ((b - c) * num) := by omega
  constructor
  · apply Int.not_lt.1
    intro hlt
    have : (k + 3) * num ≤ (b - c) * num := Int.mul_le_mul_of_nonneg_right (by omega) (by omega)
    rw [Int.add_mul, Int.mul_comm k num] at this
    omega
  · apply Int.not_lt.1
    intro hlt
    have : (b - c) * num ≤ (-(k + 3)) * num := Int.mul_le_mul_of_nonneg_right (by omega) (by omega)
    rw [Int.neg_mul, Int.add_mul, Int.mul_comm k num] at this
    omega

set_option maxHeartbeats 2000000 in
set_option maxRecDepth 100000 in
theorem walkRateNear (c num den : Int) (w : World) (w0 : (Lit.int .i64 c).wf = true) (w1 : (Lit.int .i32 num).wf = true) (w2 : (Lit.int .i32 den).wf = true) (htab : TabIs Tryd.prog w "internal/strconv.uint64pow10" .u64 pow10Tab) :
    Calls Tryd.prog 6 #[.int .i64 c, .int .i32 num, .int .i32 den] w fun e w' => e = .returned (.bool true) ∧ Below w.heap.size w w' := by
  have HW := Lib.hid (awake2 w htab)
  obtain ⟨n1, n2⟩ := bounds_i32 w1
  obtain ⟨d1, d2⟩ := bounds_i32 w2
  clear w0 w1 w2
  by_cases hbad : num ≤ 0 ∨ den ≤ 0 ∨ 1073741824 < num ∨ 1073741824 < den ∨ 1073741824 < c ∨ c < -1073741824
  · have hb : num ≤ 0 ∨ (¬ num ≤ 0 ∧ den ≤ 0) ∨ (¬ num ≤ 0 ∧ ¬ den ≤ 0 ∧ 1073741824 < num) ∨ (¬ num ≤ 0 ∧ ¬ den ≤ 0 ∧ ¬ 1073741824 < num ∧ 1073741824 < den) ∨ (¬ num ≤ 0 ∧ ¬ den ≤ 0 ∧ ¬ 1073741824 < num ∧ ¬ 1073741824 < den ∧ 1073741824 < c) ∨ (¬ num ≤ 0 ∧ ¬ den ≤ 0 ∧ ¬ 1073741824 < num ∧ ¬ 1073741824 < den ∧ ¬ 1073741824 < c ∧ c < -1073741824) := by omega
    clear hbad
    rcases hb with h | ⟨h1, h⟩ | ⟨h1, h2, h⟩ | ⟨h1, h2, h3, h⟩ | ⟨h1, h2, h3, h4, h⟩ | ⟨h1, h2, h3, h4, h5, h⟩
    all_goals
      go_enter Tryd.func6, Tryd.ntmps6
      go_wp2_with fail
      refine (HW.out).mono ?_
      rintro e' wa ⟨rfl, hba⟩
      go_wp2
      go_ret
      exact ⟨rfl, hba⟩
  have p1 : 0 < num := by omega
  have p2 : 0 < den := by omega
  have p3 : num ≤ 1073741824 := by omega
  have p4 : den ≤ 1073741824 := by omega
  have p5 : c ≤ 1073741824 := by omega
  have p6 : -1073741824 ≤ c := by omega
  clear hbad
  obtain ⟨a, ea, ha⟩ : ∃ x e, partVE c num den 1 = (x, e) := ⟨_, _, rfl⟩
  obtain ⟨b, eb, hb⟩ : ∃ x e, partVE a den num 1 = (x, e) := ⟨_, _, rfl⟩
  have t1 := fun W => part_any c num den 1 (by omega) (by omega) (by omega) W
  have t2 := fun W => part_any a den num 1 (by omega) (by omega) (by omega) W
  have ba := part_bd c num den 1
  have bb := part_bd a den num 1
  have nf := near_fact c num den p1 p2
  simp only [ha, hb] at t1 t2 ba bb nf
  obtain ⟨ba1, ba2⟩ := ba
  obtain ⟨bb1, bb2⟩ := bb
  have H1 := Lib.hid t1
  have H2 := Lib.hid t2
  have NF := Lib.hid nf
  have q1 : 0 ≤ den / num := Int.ediv_nonneg (by omega) (by omega)
  have q2 : den / num ≤ den := Int.ediv_le_self _ (by omega)
  clear t1 t2 nf ha hb
  go_enter Tryd.func6, Tryd.ntmps6
  go_wp2_with fail
  refine (HW.out).mono ?_
  rintro e' wa ⟨rfl, hba⟩
  go_wp2_with fail
  refine (H1.out _).mono ?_
  rintro e' wb ⟨rfl, hbb⟩
  have k1 := hba.trans (hbb.mono hba.size)
  by_cases e1 : ea = 0
  case neg =>
    have e1b : (ea != 0) = true := by rw [bne_iff_ne]; exact e1
    go_wp2
    go_ret
    exact ⟨rfl, k1⟩
  have e1b : (ea != 0) = false := by rw [e1]; rfl
  go_wp2_with fail
  refine (H2.out _).mono ?_
  rintro e' wc ⟨rfl, hbc⟩
  have k2 := k1.trans (hbc.mono k1.size)
  by_cases e2 : eb = 0
  case neg =>
    have e2b : (eb != 0) = true := by rw [bne_iff_ne]; exact e2
    go_wp2
    go_ret
    exact ⟨rfl, k2⟩
  have e2b : (eb != 0) = false := by rw [e2]; rfl
  obtain ⟨g1, g2⟩ := NF.out e1 e2
  clear e1 e2 NF H1 H2
  go_wp2
  go_ret
  exact ⟨rfl, k2⟩

end Go.Proofs.YthdjpkpkkdnofabDoor
