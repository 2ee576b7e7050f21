/-
  What is proved: the walk of the statement RateSums: the call returns true. Conditions: the table of powers of ten reads as the library lays it.
-/
import Derived.Test.YthdjpkpkkdnofaaDoorRateTell
import Derived.Test.YthdjpkpkkdnofaaDoorPartLaws
namespace Go.Proofs.YthdjpkpkkdnofaaDoor
open Go Go.RowKit Go.Lib Go.Proofs
set_option linter.unusedVariables false

/-- What the statement asks of the parts by one mode. -/
theorem sums_half (a b num den : Int) (h1 : (partVE a num den 1).2 = 0) (h2 : (partVE b num den 1).2 = 0) (h3 : (partVE (a + b) num den 1).2 = 0) :
    (partVE (a + b) num den 1).1 - (partVE a num den 1).1 - (partVE b num den 1).1 ≤ 1 ∧ -1 ≤ (partVE (a + b) num den 1).1 - (partVE a num den 1).1 - (partVE b num den 1).1 := by
  obtain ⟨_, hd, _, _, _, e1⟩ := partVE_ok a num den 1 h1
  obtain ⟨_, _, _, _, _, e2⟩ := partVE_ok b num den 1 h2
  obtain ⟨_, _, _, _, _, e3⟩ := partVE_ok (a + b) num den 1 h3
  rw [e1, e2, e3, Int.add_mul]
  have hD : 0 < den.toNat := by omega
  have k1 := rnd_half den.toNat (a * num) hD
  have k2 := rnd_half den.toNat (b * num) hD
  have k3 := rnd_half den.toNat (a * num + b * num) hD
  generalize rnd 1 den.toNat (a * num) = x at k1
  generalize rnd 1 den.toNat (b * num) = y at k2
  generalize rnd 1 den.toNat (a * num + b * num) = z at k3
  generalize a * num = A at k1 k3
  generalize b * num = B at k2 k3
  have e : (z - x - y) * (den.toNat : Int) = z * den.toNat - x * den.toNat - y * den.toNat := by rw [Int.sub_mul, Int.sub_mul]
  have hDp : (0 : Int) < (den.toNat : Int) := by omega
  constructor
  · apply Int.not_lt.1
    intro hn
    have : 2 * (den.toNat : Int) ≤ (z - x - y) * (den.toNat : Int) := Int.mul_le_mul_of_nonneg_right (by omega) (by omega)
    omega
  · apply Int.not_lt.1
    intro hn
    have : (z - x - y) * (den.toNat : Int) ≤ (-2) * (den.toNat : Int) := Int.mul_le_mul_of_nonneg_right (by omega) (by omega)
    omega
theorem sums_floor (a b num den : Int) (h1 : (partVE a num den 4).2 = 0) (h2 : (partVE b num den 4).2 = 0) (h3 : (partVE (a + b) num den 4).2 = 0) :
    (partVE (a + b) num den 4).1 - (partVE a num den 4).1 - (partVE b num den 4).1 ≤ 1 ∧ 0 ≤ (partVE (a + b) num den 4).1 - (partVE a num den 4).1 - (partVE b num den 4).1 := by
  obtain ⟨_, hd, _, _, _, e1⟩ := partVE_ok a num den 4 h1
  obtain ⟨_, _, _, _, _, e2⟩ := partVE_ok b num den 4 h2
  obtain ⟨_, _, _, _, _, e3⟩ := partVE_ok (a + b) num den 4 h3
  rw [e1, e2, e3, Int.add_mul]
  have hD : 0 < den.toNat := by omega
  have k1 := rnd_floor den.toNat (a * num) hD
  have k2 := rnd_floor den.toNat (b * num) hD
  have k3 := rnd_floor den.toNat (a * num + b * num) hD
  generalize rnd 4 den.toNat (a * num) = x at k1
  generalize rnd 4 den.toNat (b * num) = y at k2
  generalize rnd 4 den.toNat (a * num + b * num) = z at k3
  generalize a * num = A at k1 k3
  generalize b * num = B at k2 k3
  have e : (z - x - y) * (den.toNat : Int) = z * den.toNat - x * den.toNat - y * den.toNat := by rw [Int.sub_mul, Int.sub_mul]
  have hDp : (0 : Int) < (den.toNat : Int) := by omega
  constructor
  · apply Int.not_lt.1
    intro hn
    have : 2 * (den.toNat : Int) ≤ (z - x - y) * (den.toNat : Int) := Int.mul_le_mul_of_nonneg_right (by omega) (by omega)
    omega
  · apply Int.not_lt.1
    intro hn
    have : (z - x - y) * (den.toNat : Int) ≤ (-1) * (den.toNat : Int) := Int.mul_le_mul_of_nonneg_right (by omega) (by omega)
    omega
theorem part_bd (c num den mode : Int) : -1125899906842624 ≤ (partVE c num den mode).1 ∧ (partVE c num den mode).1 ≤ 1125899906842624 := by
  by_cases h : (partVE c num den mode).2 = 0
  · obtain ⟨_, _, _, _, h1, h2⟩ := partVE_ok c num den mode h
    rw [h2]; omega
  · rw [partVE_err c num den mode h]; omega

set_option maxHeartbeats 2000000 in
set_option maxRecDepth 100000 in
theorem walkRateSums (a b num den : Int) (w : World) (w0 : (Lit.int .i64 a).wf = true) (w1 : (Lit.int .i64 b).wf = true) (w2 : (Lit.int .i64 num).wf = true) (w3 : (Lit.int .i64 den).wf = true) (htab : TabIs Tryd.prog w "internal/strconv.uint64pow10" .u64 pow10Tab) :
    Calls Tryd.prog 13 #[.int .i64 a, .int .i64 b, .int .i64 num, .int .i64 den] w fun e w' => e = .returned (.bool true) ∧ Below w.heap.size w w' := by
  have HW := Lib.hid (awake2 w htab)
  have n1 := (bounds_i64 w2).1
  have n2 := (bounds_i64 w2).2
  have d2 := (bounds_i64 w3).2
  clear w0 w1 w2 w3
  go_enter Tryd.func13, Tryd.ntmps13
  go_wp2_with fail
  refine (HW.out).mono ?_
  rintro e' wa ⟨rfl, hba⟩
  go_wp2
  have hlt0 : wa.heap.size < (wa.alloc (.cells #[.int .i64 1, .int .i64 4] 3)).heap.size := by simp
  have hb0 : Below w.heap.size w (wa.alloc (.cells #[.int .i64 1, .int .i64 4] 3)) := hba.alloc hba.size _
  go_loopw [22] (fun i wr => ∃ k : Nat, k ≤ 2 ∧ i = .int .i64 k ∧ wr.cell? ⟨wa.heap.size, 0, none⟩ = some (.int .i64 1) ∧ wr.cell? ⟨wa.heap.size, 1, none⟩ = some (.int .i64 4) ∧ Below w.heap.size w wr ∧ wa.heap.size < wr.heap.size) (fun i _ => 2 - (RowKit.intOf i).toNat)
  case atStart => exact ⟨0, by omega, rfl, by simp, by simp, hb0, hlt0⟩
  case round =>
    obtain ⟨k, hk, rfl, c0, c1, hbw, hlt⟩ := hrel
    have HC0 := Lib.hid c0
    have HC1 := Lib.hid c1
    have hk3 : k = 0 ∨ k = 1 ∨ k = 2 := by omega
    rcases hk3 with rfl | rfl | rfl
    · clear c1 hk
      obtain ⟨x, ex, hx⟩ : ∃ x e, partVE a num den 1 = (x, e) := ⟨_, _, rfl⟩
      obtain ⟨y, ey, hy⟩ : ∃ x e, partVE b num den 1 = (x, e) := ⟨_, _, rfl⟩
      obtain ⟨z, ez, hz⟩ : ∃ x e, partVE (a + b) num den 1 = (x, e) := ⟨_, _, rfl⟩
      have t1 := fun W => part_any a num den 1 n1 n2 d2 W
      have t2 := fun W => part_any b num den 1 n1 n2 d2 W
      have t3 := fun W => part_any (a + b) num den 1 n1 n2 d2 W
      have bx := part_bd a num den 1
      have by' := part_bd b num den 1
      have bz := part_bd (a + b) num den 1
      have hs := sums_half a b num den
      simp only [hx] at t1 bx hs
      simp only [hy] at t2 by' hs
      simp only [hz] at t3 bz hs
      obtain ⟨bx1, bx2⟩ := bx
      obtain ⟨by1, by2⟩ := by'
      obtain ⟨bz1, bz2⟩ := bz
      have H1 := Lib.hid t1
      have H2 := Lib.hid t2
      have H3 := Lib.hid t3
      have HS := Lib.hid hs
      clear t1 t2 t3 hs hx hy hz
      go_wp2_with fail
      refine (rfits2_any _ _).mono ?_
      rintro e' w' ⟨rfl, rfl⟩
      by_cases fa : fitsB a = true
      case neg =>
        simp only [Bool.not_eq_true] at fa
        rw [fa]
        go_wp2
        go_ret
        exact ⟨rfl, hbw⟩
      rw [fa]
      go_wp2_with fail
      refine (rfits2_any _ _).mono ?_
      rintro e' w' ⟨rfl, rfl⟩
      by_cases fb : fitsB b = true
      case neg =>
        simp only [Bool.not_eq_true] at fb
        rw [fb]
        go_wp2
        go_ret
        exact ⟨rfl, hbw⟩
      rw [fb]
      obtain ⟨fa1, fa2⟩ := fitsB_iff.1 fa
      obtain ⟨fb1, fb2⟩ := fitsB_iff.1 fb
      go_wp2_with fail
      refine (H1.out _).mono ?_
      rintro e' wb ⟨rfl, hbb⟩
      have k1 := hbw.trans (hbb.mono hbw.size)
      go_wp2_with fail
      refine (H2.out _).mono ?_
      rintro e' wc ⟨rfl, hbc⟩
      have k2 := k1.trans (hbc.mono k1.size)
      go_wp2_with fail
      refine (H3.out _).mono ?_
      rintro e' wd ⟨rfl, hbd⟩
      have k3 := k2.trans (hbd.mono k2.size)
      have hbrd : Below wr.heap.size wr wd := hbb.trans ((hbc.mono hbb.size).trans (hbd.mono (Nat.le_trans hbb.size hbc.size)))
      have c0' : wd.cell? ⟨wa.heap.size, 0, none⟩ = some (.int .i64 1) := by rw [hbrd.cell (p := ⟨wa.heap.size, 0, none⟩) hlt]; exact HC0.out
      have c1' : wd.cell? ⟨wa.heap.size, 1, none⟩ = some (.int .i64 4) := by rw [hbrd.cell (p := ⟨wa.heap.size, 1, none⟩) hlt]; exact HC1.out
      have hlt3 : wa.heap.size < wd.heap.size := Nat.lt_of_lt_of_le hlt hbrd.size
      by_cases e1 : ex = 0
      case neg =>
        have e1b : (ex != 0) = true := by rw [bne_iff_ne]; exact e1
        go_wp2
        go_roundw
        case rel => exact ⟨1, by omega, rfl, c0', c1', k3, hlt3⟩
        case measure => simp [RowKit.intOf]
      have e1b : (ex != 0) = false := by rw [e1]; rfl
      by_cases e2 : ey = 0
      case neg =>
        have e2b : (ey != 0) = true := by rw [bne_iff_ne]; exact e2
        go_wp2
        go_roundw
        case rel => exact ⟨1, by omega, rfl, c0', c1', k3, hlt3⟩
        case measure => simp [RowKit.intOf]
      have e2b : (ey != 0) = false := by rw [e2]; rfl
      by_cases e3 : ez = 0
      case neg =>
        have e3b : (ez != 0) = true := by rw [bne_iff_ne]; exact e3
        go_wp2
        go_roundw
        case rel => exact ⟨1, by omega, rfl, c0', c1', k3, hlt3⟩
        case measure => simp [RowKit.intOf]
      have e3b : (ez != 0) = false := by rw [e3]; rfl
      obtain ⟨g1, g2⟩ := HS.out e1 e2 e3
      clear e1 e2 e3
      have g3 : ¬ (1 < z - x - y) := by omega
      have g4 : ¬ (z - x - y < -1) := by omega
      go_wp2
      go_roundw
      case rel => exact ⟨1, by omega, rfl, c0', c1', k3, hlt3⟩
      case measure => simp [RowKit.intOf]
    · clear c0 hk
      obtain ⟨x, ex, hx⟩ : ∃ x e, partVE a num den 4 = (x, e) := ⟨_, _, rfl⟩
      obtain ⟨y, ey, hy⟩ : ∃ x e, partVE b num den 4 = (x, e) := ⟨_, _, rfl⟩
      obtain ⟨z, ez, hz⟩ : ∃ x e, partVE (a + b) num den 4 = (x, e) := ⟨_, _, rfl⟩
      have t1 := fun W => part_any a num den 4 n1 n2 d2 W
      have t2 := fun W => part_any b num den 4 n1 n2 d2 W
      have t3 := fun W => part_any (a + b) num den 4 n1 n2 d2 W
      have bx := part_bd a num den 4
      have by' := part_bd b num den 4
      have bz := part_bd (a + b) num den 4
      have hs := sums_floor a b num den
      simp only [hx] at t1 bx hs
      simp only [hy] at t2 by' hs
      simp only [hz] at t3 bz hs
      obtain ⟨bx1, bx2⟩ := bx
      obtain ⟨by1, by2⟩ := by'
      obtain ⟨bz1, bz2⟩ := bz
      have H1 := Lib.hid t1
      have H2 := Lib.hid t2
      have H3 := Lib.hid t3
      have HS := Lib.hid hs
      clear t1 t2 t3 hs hx hy hz
      go_wp2_with fail
      refine (rfits2_any _ _).mono ?_
      rintro e' w' ⟨rfl, rfl⟩
      by_cases fa : fitsB a = true
      case neg =>
        simp only [Bool.not_eq_true] at fa
        rw [fa]
        go_wp2
        go_ret
        exact ⟨rfl, hbw⟩
      rw [fa]
      go_wp2_with fail
      refine (rfits2_any _ _).mono ?_
      rintro e' w' ⟨rfl, rfl⟩
      by_cases fb : fitsB b = true
      case neg =>
        simp only [Bool.not_eq_true] at fb
        rw [fb]
        go_wp2
        go_ret
        exact ⟨rfl, hbw⟩
      rw [fb]
      obtain ⟨fa1, fa2⟩ := fitsB_iff.1 fa
      obtain ⟨fb1, fb2⟩ := fitsB_iff.1 fb
      go_wp2_with fail
      refine (H1.out _).mono ?_
      rintro e' wb ⟨rfl, hbb⟩
      have k1 := hbw.trans (hbb.mono hbw.size)
      go_wp2_with fail
      refine (H2.out _).mono ?_
      rintro e' wc ⟨rfl, hbc⟩
      have k2 := k1.trans (hbc.mono k1.size)
      go_wp2_with fail
      refine (H3.out _).mono ?_
      rintro e' wd ⟨rfl, hbd⟩
      have k3 := k2.trans (hbd.mono k2.size)
      have hbrd : Below wr.heap.size wr wd := hbb.trans ((hbc.mono hbb.size).trans (hbd.mono (Nat.le_trans hbb.size hbc.size)))
      have c0' : wd.cell? ⟨wa.heap.size, 0, none⟩ = some (.int .i64 1) := by rw [hbrd.cell (p := ⟨wa.heap.size, 0, none⟩) hlt]; exact HC0.out
      have c1' : wd.cell? ⟨wa.heap.size, 1, none⟩ = some (.int .i64 4) := by rw [hbrd.cell (p := ⟨wa.heap.size, 1, none⟩) hlt]; exact HC1.out
      have hlt3 : wa.heap.size < wd.heap.size := Nat.lt_of_lt_of_le hlt hbrd.size
      by_cases e1 : ex = 0
      case neg =>
        have e1b : (ex != 0) = true := by rw [bne_iff_ne]; exact e1
        go_wp2
        go_roundw
        case rel => exact ⟨2, by omega, rfl, c0', c1', k3, hlt3⟩
        case measure => simp [RowKit.intOf]
      have e1b : (ex != 0) = false := by rw [e1]; rfl
      by_cases e2 : ey = 0
      case neg =>
        have e2b : (ey != 0) = true := by rw [bne_iff_ne]; exact e2
        go_wp2
        go_roundw
        case rel => exact ⟨2, by omega, rfl, c0', c1', k3, hlt3⟩
        case measure => simp [RowKit.intOf]
      have e2b : (ey != 0) = false := by rw [e2]; rfl
      by_cases e3 : ez = 0
      case neg =>
        have e3b : (ez != 0) = true := by rw [bne_iff_ne]; exact e3
        go_wp2
        go_roundw
        case rel => exact ⟨2, by omega, rfl, c0', c1', k3, hlt3⟩
        case measure => simp [RowKit.intOf]
      have e3b : (ez != 0) = false := by rw [e3]; rfl
      obtain ⟨g1, g2⟩ := HS.out e1 e2 e3
      clear e1 e2 e3
      have g3 : ¬ (1 < z - x - y) := by omega
      have g4 : ¬ (z - x - y < -1) := by omega
      have g5 : ¬ (z - x - y < 0) := by omega
      go_wp2
      go_roundw
      case rel => exact ⟨2, by omega, rfl, c0', c1', k3, hlt3⟩
      case measure => simp [RowKit.intOf]
    · clear c0 c1
      go_wp2
      go_ret
      exact ⟨rfl, hbw⟩

end Go.Proofs.YthdjpkpkkdnofaaDoor
