/-
  What is proved: the walk of the statement ProrateYear: the call returns true. Conditions: what came in is as the frame says.
-/
import Derived.Test.YtamglmenljgbdaaPrH
import Derived.Test.YtamglmenljgbdaaPrMc
import Derived.Test.YtamglmenljgbdaaFrameR
namespace Go.Proofs.Ytamglmenljgbdaa
open Go Go.RowKit Go.Proofs
set_option linter.unusedVariables false
set_option linter.unusedSimpArgs false

set_option maxHeartbeats 4000000 in
set_option maxRecDepth 100000 in
theorem walkProrateYear (y m : Int) (w : World) (hy : (Lit.int .i64 y).wf = true) (hm : (Lit.int .u16 m).wf = true) :
    Calls Try.prog 6 #[.int .i64 y, .int .u16 m] w fun e w' => e = .returned (.bool true) ∧ Below w.heap.size w w' := by
  have hm1 : 0 ≤ m ∧ m ≤ 65535 := by
    simp [Lit.wf, IntKind.min, IntKind.max, IntKind.signed, IntKind.bits] at hm
    omega
  have hy1 := in64_wf hy
  unfold in64 at hy1
  obtain ⟨r, hr, r0, r1⟩ : ∃ r : Nat, m.tmod 400 = (r : Int) ∧ (r : Int) < 400 ∧ r < 400 := ⟨(m % 400).toNat, by rw [Int.tmod_eq_emod_of_nonneg hm1.1]; omega, by omega, by omega⟩
  have HPd := Lib.hid (fun (k : Nat) W => Period_any 0 ((k : Int) + 1) ((r : Int) + 1) 0 0 0 y W)
  have hz : Hid (Sh.upV y 0 ((r : Int) + 1) = 0) := Lib.hid (up_no y _ (by omega))
  clear hy hm
  go_enter Try.func6, Try.ntmps6
  go_wp2_with fail
  refine (awake_any _).mono ?_
  rintro e w1 ⟨rfl, hb1⟩
  go_wp2
  go_loopw [6, 7, 8, 9] (fun sv lv hv iv wr => ∃ (k : Nat) (S Lo Hi : Int), k ≤ r + 1 ∧ iv = .int .i64 ((k : Int) + 1) ∧ sv = .int .i64 S ∧ lv = .int .i64 Lo ∧ hv = .int .i64 Hi ∧ Hid (S = Sh.upV y k ((r : Int) + 1)) ∧ Hid (-1125899906842626 ≤ Lo ∧ Lo ≤ 1125899906842626 ∧ -1125899906842626 ≤ Hi ∧ Hi ≤ 1125899906842626) ∧
      Hid (k = 0 ∨ (lowB y ((r : Int) + 1) ≤ Lo ∧ Hi ≤ lowB y ((r : Int) + 1) + 1 ∧ Sh.fitB y = true)) ∧ Below w.heap.size w wr) (fun _ _ _ iv _ => ((r : Int) + 3 - RowKit.intOf iv).toNat)
  case atStart => exact ⟨0, 0, 0, 0, by omega, rfl, rfl, rfl, rfl, Lib.hid (by rw [← hz.out]; rfl), Lib.hid (by omega), Lib.hid (.inl rfl), hb1⟩
  case round =>
    obtain ⟨k, S, Lo, Hi, hk, rfl, rfl, rfl, rfl, HS, HB, HL, hbr⟩ := hrel
    by_cases hlt : k < r + 1
    · have i1 : (k : Int) + 1 ≤ (r : Int) + 1 := by omega
      have hPd := HPd.out k wr (by unfold in64; omega)
      by_cases hf : Sh.fitB y = true
      · obtain ⟨p1, p2⟩ := per_is (i := (k : Int) + 1) (n := (r : Int) + 1) hf (by omega) (by omega) (by omega)
        obtain ⟨p3, p4⟩ := per_low (i := (k : Int) + 1) (n := (r : Int) + 1) hf (by omega) (by omega) (by omega)
        have p5 := fit_iff.1 (per_fit y ((k : Int) + 1) ((r : Int) + 1))
        have p6 := up_bd (y := y) (i := (k : Int) + 1) (n := (r : Int) + 1) hf (by omega) (by omega) (by omega)
        rw [p1] at hPd
        rw [show ((k : Int) + 1 - 1) = (k : Int) by omega, ← HS.out] at p2
        have HS2 : Hid (S + perV y ((k : Int) + 1) ((r : Int) + 1) = Sh.upV y ((k + 1 : Nat) : Int) ((r : Int) + 1)) := Lib.hid (by rw [p2, show ((k + 1 : Nat) : Int) = (k : Int) + 1 by omega]; omega)
        have hsb : -1125899906842624 ≤ S + perV y ((k : Int) + 1) ((r : Int) + 1) ∧ S + perV y ((k : Int) + 1) ((r : Int) + 1) ≤ 1125899906842624 := by rw [HS2.out]; exact p6
        clear p1 p2 p6
        generalize perV y ((k : Int) + 1) ((r : Int) + 1) = C at *
        have hbd := HB.out
        have hll := HL.out
        have HPk := Lib.hid hPd
        by_cases h0 : k = 0
        · subst h0
          have hB2 : Hid (-1125899906842626 ≤ C ∧ C ≤ 1125899906842626 ∧ -1125899906842626 ≤ C ∧ C ≤ 1125899906842626) := Lib.hid (by omega)
          have hL2 : Hid ((0 + 1 : Nat) = 0 ∨ (lowB y ((r : Int) + 1) ≤ C ∧ C ≤ lowB y ((r : Int) + 1) + 1 ∧ Sh.fitB y = true)) := Lib.hid (.inr ⟨by omega, by omega, hf⟩)
          clear hbd hll p3 p4 hPd
          go_wp2_with fail
          refine HPk.out.mono ?_
          rintro e w2 ⟨rfl, hb2⟩
          have hk2 := hbr.trans (hb2.mono hbr.size)
          go_wp2
          exact ⟨⟨0 + 1, _, _, _, by omega, by go_num, rfl, rfl, rfl, HS2, hB2, hL2, hk2⟩, by simp [RowKit.intOf]; omega⟩
        · have hl1 := hll.resolve_left h0
          have hB2 : Hid (-1125899906842626 ≤ min Lo C ∧ min Lo C ≤ 1125899906842626 ∧ -1125899906842626 ≤ max Hi C ∧ max Hi C ≤ 1125899906842626) := Lib.hid (by omega)
          have hL2 : Hid ((k + 1 : Nat) = 0 ∨ (lowB y ((r : Int) + 1) ≤ min Lo C ∧ max Hi C ≤ lowB y ((r : Int) + 1) + 1 ∧ Sh.fitB y = true)) := Lib.hid (.inr ⟨by omega, by omega, hf⟩)
          have h1 : ((k : Int) + 1 == 1) = false := by rw [beq_eq_false_iff_ne]; omega
          clear hbd hll p3 p4 hPd hl1
          go_wp2_with fail
          refine HPk.out.mono ?_
          rintro e w2 ⟨rfl, hb2⟩
          have hk2 := hbr.trans (hb2.mono hbr.size)
          go_wp2
          exact ⟨⟨k + 1, _, _, _, by omega, by go_num, rfl, rfl, rfl, HS2, hB2, hL2, hk2⟩, by simp [RowKit.intOf]; omega⟩
      · have hf' : Sh.fitB y = false := by simpa using hf
        rw [per_err hf' (by omega)] at hPd
        have hbig : 1125899906842624 < y ∨ (¬ 1125899906842624 < y ∧ y < -1125899906842624) := by
          by_cases h : -1125899906842624 ≤ y ∧ y ≤ 1125899906842624
          · exact absurd (fit_iff.2 h) hf
          · omega
        have HPk := Lib.hid hPd
        clear hPd
        rcases hbig with h | ⟨h1, h⟩
        all_goals
          go_wp2_with fail
          refine HPk.out.mono ?_
          rintro e w2 ⟨rfl, hb2⟩
          have hk2 := hbr.trans (hb2.mono hbr.size)
          go_wp2
          go_ret
          exact ⟨rfl, hk2⟩
    · obtain rfl : k = r + 1 := by omega
      have hll := HL.out
      have hl1 := hll.resolve_left (by omega)
      have hS : S = y := by
        rw [HS.out]
        exact up_all y ((r : Int) + 1) (by omega)
      have hbd := HB.out
      subst hS
      have hd : Hi - Lo ≤ 1 := by omega
      have i2 : ¬ ((r + 1 : Nat) : Int) + 1 ≤ (r : Int) + 1 := by omega
      have d1 : (S == S) = true := by simp
      clear hll hl1 HS HB HL
      go_wp2
      go_ret
      exact ⟨rfl, hbr⟩

end Go.Proofs.Ytamglmenljgbdaa
