/-
  What is proved: the walk of the statement RateExact: the call returns true. Conditions: the table of powers of ten reads as the library lays it.
-/
import Derived.Test.YthdjpkpkkdnofabDoorRateTell
import Derived.Test.YthdjpkpkkdnofabDoorPartLaws
namespace Go.Proofs.YthdjpkpkkdnofabDoor
open Go Go.RowKit Go.Lib Go.Proofs
set_option linter.unusedVariables false

theorem exact_all (c d m : Int) (hf : fitsB c = true) (hd : 0 < d) (h0 : 0 ≤ m) (h4 : m ≤ 4) : partVE c d d m = (c, 0) := by
  rw [partVE_val c d d m hf hd h0 h4]
  have e : rnd m d.toNat (c * d) = c := by
    have := rnd_exact m d.toNat (by omega) c
    rwa [Int.toNat_of_nonneg (by omega)] at this
  rw [e, if_pos (by rw [fitsB_iff] at hf; omega)]
theorem exact_none (c d m : Int) (hf : fitsB c = true) (hd : 0 < d) (h0 : 0 ≤ m) (h4 : m ≤ 4) : partVE c 0 d m = (0, 0) := by
  rw [partVE_val c 0 d m hf hd h0 h4]
  have e : rnd m d.toNat (c * 0) = 0 := by
    have := rnd_exact m d.toNat (by omega) 0
    rw [Int.zero_mul] at this
    rw [Int.mul_zero]; exact this
  rw [e]; rfl
theorem exact_scale (c num d k m : Int) (hf : fitsB c = true) (hd : 0 < d) (hk : 0 < k) (h0 : 0 ≤ m) (h4 : m ≤ 4) : partVE c (num * k) (d * k) m = partVE c num d m := by
  rw [partVE_val c (num * k) (d * k) m hf (Int.mul_pos hd hk) h0 h4, partVE_val c num d m hf hd h0 h4]
  have e : rnd m (d * k).toNat (c * (num * k)) = rnd m d.toNat (c * num) := by
    have := rnd_scale m d.toNat k.toNat (by omega) (c * num)
    rw [Int.toNat_of_nonneg (show 0 ≤ k by omega), Int.mul_assoc] at this
    rw [← this, Int.toNat_mul (by omega) (by omega)]
  rw [e]
theorem exact_times (n d k m : Int) (hn : fitsB n = true) (hd : 0 < d) (hb : -1125899906842624 ≤ n * k ∧ n * k ≤ 1125899906842624) (h0 : 0 ≤ m) (h4 : m ≤ 4) : partVE n (d * k) d m = (n * k, 0) := by
  rw [partVE_val n (d * k) d m hn hd h0 h4]
  have e : rnd m d.toNat (n * (d * k)) = n * k := by
    have := rnd_exact m d.toNat (by omega) (n * k)
    rw [Int.toNat_of_nonneg (show 0 ≤ d by omega)] at this
    rw [show n * (d * k) = n * k * d by rw [Int.mul_comm d k, Int.mul_assoc]]
    exact this
  rw [e, if_pos (by omega)]

set_option maxHeartbeats 2000000 in
set_option maxRecDepth 100000 in
theorem walkRateExact (c num den many mode : Int) (w : World) (w0 : (Lit.int .i64 c).wf = true) (w1 : (Lit.int .i32 num).wf = true) (w2 : (Lit.int .i32 den).wf = true) (w3 : (Lit.int .u16 many).wf = true) (w4 : (Lit.int .u8 mode).wf = true) (htab : TabIs Tryd.prog w "internal/strconv.uint64pow10" .u64 pow10Tab) :
    Calls Tryd.prog 3 #[.int .i64 c, .int .i32 num, .int .i32 den, .int .u16 many, .int .u8 mode] w fun e w' => e = .returned (.bool true) ∧ Below w.heap.size w w' := by
  have HW := Lib.hid (awake2 w htab)
  obtain ⟨n1, n2⟩ := bounds_i32 w1
  obtain ⟨d1, d2⟩ := bounds_i32 w2
  obtain ⟨k1, k2⟩ := bounds_u16 w3
  obtain ⟨m1, m2⟩ := bounds_u8 w4
  clear w0 w1 w2 w3 w4
  by_cases hd : den ≤ 0
  · go_enter Tryd.func3, Tryd.ntmps3
    go_wp2_with fail
    refine (HW.out).mono ?_
    rintro e' wa ⟨rfl, hba⟩
    go_wp2
    go_ret
    exact ⟨rfl, hba⟩
  by_cases hf : fitsB c = true
  case neg =>
    simp only [Bool.not_eq_true] at hf
    go_enter Tryd.func3, Tryd.ntmps3
    go_wp2_with fail
    refine (HW.out).mono ?_
    rintro e' wa ⟨rfl, hba⟩
    go_wp2_with fail
    refine (rfits2_any _ _).mono ?_
    rintro e' w' ⟨rfl, rfl⟩
    go_wp2
    go_ret
    exact ⟨rfl, hba⟩
  have hnf : fitsB num = true := fitsB_yes (by omega) (by omega)
  obtain ⟨P, hP⟩ : ∃ P, num * (many + 1) = P := ⟨_, rfl⟩
  obtain ⟨Q, hQ⟩ : ∃ Q, den * (many + 1) = Q := ⟨_, rfl⟩
  have hQ2 : (many + 1) * den = Q := by rw [Int.mul_comm]; exact hQ
  have bP : -140737488355328 ≤ P ∧ P ≤ 140737488355328 := by
    rw [← hP]
    by_cases hn : 0 ≤ num
    · have u1 : 0 ≤ num * (many + 1) := Int.mul_nonneg hn (by omega)
      have u2 : num * (many + 1) ≤ 2147483648 * (many + 1) := Int.mul_le_mul_of_nonneg_right (by omega) (by omega)
      omega
    · have u1 : (-2147483648) * (many + 1) ≤ num * (many + 1) := Int.mul_le_mul_of_nonneg_right (by omega) (by omega)
      have u2 : num * (many + 1) ≤ 0 * (many + 1) := Int.mul_le_mul_of_nonneg_right (by omega) (by omega)
      omega
  have bQ : 0 < Q ∧ Q ≤ 140737488355328 := by
    rw [← hQ]
    have u1 : 0 < den * (many + 1) := Int.mul_pos (by omega) (by omega)
    have u2 : den * (many + 1) ≤ 2147483648 * (many + 1) := Int.mul_le_mul_of_nonneg_right (by omega) (by omega)
    omega
  have t1 := fun W => part_any c den den (mode % 5) (by omega) (by omega) (by omega) W
  have t2 := fun W => part_any c 0 den (mode % 5) (by omega) (by omega) (by omega) W
  have t3 := fun W => part_any c num den (mode % 5) (by omega) (by omega) (by omega) W
  have t4 := fun W => part_any c P Q (mode % 5) (by omega) (by omega) (by omega) W
  have t5 := fun W => part_any num Q den (mode % 5) (by omega) (by omega) (by omega) W
  have x1 := exact_all c den (mode % 5) hf (by omega) (by omega) (by omega)
  have x2 := exact_none c den (mode % 5) hf (by omega) (by omega) (by omega)
  have x4 := exact_scale c num den (many + 1) (mode % 5) hf (by omega) (by omega) (by omega) (by omega)
  have x5 := exact_times num den (many + 1) (mode % 5) hnf (by omega) (by rw [hP]; omega) (by omega) (by omega)
  rw [hP, hQ] at x4
  rw [hP, hQ] at x5
  obtain ⟨x, ex, hx⟩ : ∃ x e, partVE c num den (mode % 5) = (x, e) := ⟨_, _, rfl⟩
  rw [hx] at x4
  simp only [x1] at t1
  simp only [x2] at t2
  simp only [hx] at t3
  simp only [x4] at t4
  simp only [x5] at t5
  have H1 := Lib.hid t1
  have H2 := Lib.hid t2
  have H3 := Lib.hid t3
  have H4 := Lib.hid t4
  have H5 := Lib.hid t5
  obtain ⟨bP1, bP2⟩ := bP
  obtain ⟨bQ1, bQ2⟩ := bQ
  clear t1 t2 t3 t4 t5 x1 x2 x4 x5 hx
  go_enter Tryd.func3, Tryd.ntmps3
  go_wp2_with fail
  refine (HW.out).mono ?_
  rintro e' wa ⟨rfl, hba⟩
  go_wp2_with fail
  refine (rfits2_any _ _).mono ?_
  rintro e' w' ⟨rfl, rfl⟩
  go_wp2_with fail
  refine (H1.out _).mono ?_
  rintro e' wb ⟨rfl, hbb⟩
  have q1 := hba.trans (hbb.mono hba.size)
  go_wp2_with fail
  refine (H2.out _).mono ?_
  rintro e' wc ⟨rfl, hbc⟩
  have q2 := q1.trans (hbc.mono q1.size)
  go_wp2_with fail
  refine (H3.out _).mono ?_
  rintro e' wd ⟨rfl, hbd⟩
  have q3 := q2.trans (hbd.mono q2.size)
  go_wp2_with fail
  refine (H4.out _).mono ?_
  rintro e' we ⟨rfl, hbe⟩
  have q4 := q3.trans (hbe.mono q3.size)
  go_wp2_with fail
  refine (H5.out _).mono ?_
  rintro e' wf ⟨rfl, hbf⟩
  have q5 := q4.trans (hbf.mono q4.size)
  go_wp2
  go_ret
  exact ⟨rfl, q5⟩

end Go.Proofs.YthdjpkpkkdnofabDoor
