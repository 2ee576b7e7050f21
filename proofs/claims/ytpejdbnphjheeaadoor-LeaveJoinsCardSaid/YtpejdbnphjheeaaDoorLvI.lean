/-
  What is proved: the contract of an account's Text, and that the document's example comes out as it says ('awake' of the statements returns true). Conditions: the tables read as their texts lay them.
-/
import Derived.Test.YtpejdbnphjheeaaDoorLvH
import Derived.Test.YtpejdbnphjheeaaDoorShelf
import Derived.Lib.SmallJoins
import Derived.Lib.AppendIntMem
import Derived.Laws.AppendOwn
import Derived.Deep.AppendLies
namespace Go.Proofs.YtpejdbnphjheeaaDoor
open Go Go.RowKit Go.Lib Go.Proofs Go.Proofs.YtpejdbnphjheeaaDoor.Cv
set_option linter.unusedVariables false
set_option linter.unusedSimpArgs false

/-- The tables as their texts lay them. -/
def Tab4 (w : World) : Prop := Len w ∧ Lib.TabIs Tryd.prog w "internal/strconv.uint64pow10" .u64 Lib.pow10Tab
theorem gPow : Tryd.prog.globalNamed "internal/strconv.uint64pow10" = some 1 := by kernel_rfl
theorem Tab4.stay {W W' : World} (h : Tab4 W) (hb : Below W.heap.size W W') : Tab4 W' := ⟨h.1.below hb (Nat.le_refl _), Joins.tab_stays gPow h.2 hb (Nat.le_refl _)⟩
theorem infoU8 : (Tryd.prog.info? 5).map (fun i => (i.zero, i.size, i.bytes)) = some (some (.int .u8 0), 1, 1) := by kernel_rfl
theorem text_own {w : World} {base : Nat} {v : Value} {n : Nat} {l : List UInt8} (h : w.ownsRow base 5 1 v n (Lib.byteCells l)) (hl : n = l.length) (hn : 0 < n) : (convert 66 9 v).run Tryd.prog w = .ok (.string ⟨l.toArray⟩) w := by
  obtain ⟨g, c, rfl, hg, hlt⟩ := h.form hn
  subst hl
  refine run_convert_bytes_back (P := Tryd.prog) w 66 9 5 ⟨g, 0, none⟩ c l Tryd.underlying66 Tryd.underlying5 Tryd.underlying9 (fun j hj => ?_)
  exact h.cells (g := g) rfl j _ (by unfold Lib.byteCells; rw [List.getElem?_map, List.getElem?_eq_getElem hj]; rfl)
theorem dd_ne (m : Nat) : decDigits m ≠ [] := by
  rw [decDigits]; split <;> simp
theorem itoa_ne (n : Int) : 0 < (itoa n).length := by
  unfold itoa
  split
  · simp
  · exact List.length_pos_iff.2 (dd_ne _)
theorem dec_len : ∀ (k u : Nat), u < 10 ^ (k + 1) → (Lib.decDigits u).length ≤ k + 1
  | 0, u, h => by
    rw [Lib.decDigits, dif_pos (by simpa using h)]; simp
  | k + 1, u, h => by
    rw [Lib.decDigits]
    split
    · simp
    · have := dec_len k (u / 10) (by rw [Nat.pow_succ] at h; omega)
      simp; omega
theorem itoa_len {n : Int} (h0 : -9223372036854775808 ≤ n) (h1 : n ≤ 9223372036854775807) : (itoa n).length ≤ 21 := by
  unfold Lib.itoa
  split
  · have := dec_len 19 n.natAbs (by have : n.natAbs ≤ 9223372036854775808 := by omega
                                    exact Nat.lt_of_le_of_lt this (by decide))
    simp; omega
  · have := dec_len 19 n.toNat (by have : n.toNat ≤ 9223372036854775808 := by omega
                                   exact Nat.lt_of_le_of_lt this (by decide))
    omega
/-- The first so many sums, in tens, a blank between. -/
def txtK (q : Nat → Int) : Nat → List UInt8
  | 0 => []
  | k + 1 => txtK q k ++ ((if 0 < k then [32] else []) ++ itoa (q k))
theorem txtK_len {q : Nat → Int} (h : ∀ j, j < 4 → -9223372036854775808 ≤ q j ∧ q j ≤ 9223372036854775807) : ∀ k, k ≤ 4 → (txtK q k).length ≤ 22 * k
  | 0, _ => by simp [txtK]
  | k + 1, hk => by
    have a := txtK_len h k (by omega)
    have b := itoa_len (h k (by omega)).1 (h k (by omega)).2
    show (txtK q k ++ ((if 0 < k then [32] else []) ++ itoa (q k))).length ≤ _
    rw [List.length_append, List.length_append]
    have : (if 0 < k then [(32 : UInt8)] else []).length ≤ 1 := by split <;> simp
    omega
theorem acc_index (q : Nat → Int) (k : Nat) (hk : k < 4) (W : World) : (Instr.index 67 (.agg #[.int .i64 (q 0), .int .i64 (q 1), .int .i64 (q 2), .int .i64 (q 3)]) (.int .i64 k)).run Tryd.prog W = .ok (.int .i64 (q k)) W := by
  have i0 : (Instr.index 67 (.agg #[.int .i64 (q 0), .int .i64 (q 1), .int .i64 (q 2), .int .i64 (q 3)]) (.int .i64 0)).run Tryd.prog W = .ok (.int .i64 (q 0)) W := by kernel_rfl
  have i1 : (Instr.index 67 (.agg #[.int .i64 (q 0), .int .i64 (q 1), .int .i64 (q 2), .int .i64 (q 3)]) (.int .i64 1)).run Tryd.prog W = .ok (.int .i64 (q 1)) W := by kernel_rfl
  have i2 : (Instr.index 67 (.agg #[.int .i64 (q 0), .int .i64 (q 1), .int .i64 (q 2), .int .i64 (q 3)]) (.int .i64 2)).run Tryd.prog W = .ok (.int .i64 (q 2)) W := by kernel_rfl
  have i3 : (Instr.index 67 (.agg #[.int .i64 (q 0), .int .i64 (q 1), .int .i64 (q 2), .int .i64 (q 3)]) (.int .i64 3)).run Tryd.prog W = .ok (.int .i64 (q 3)) W := by kernel_rfl
  have e : k = 0 ∨ k = 1 ∨ k = 2 ∨ k = 3 := by omega
  rcases e with rfl | rfl | rfl | rfl
  · exact i0
  · exact i1
  · exact i2
  · exact i3

set_option maxHeartbeats 4000000 in
set_option maxRecDepth 100000 in
theorem Text_any (q : Nat → Int) (hq : ∀ j, j < 4 → -9223372036854775808 ≤ q j ∧ q j ≤ 9223372036854775807) (w : World) (hT : Tab4 w) : Calls Tryd.prog 16 #[.agg #[.int .i64 (q 0), .int .i64 (q 1), .int .i64 (q 2), .int .i64 (q 3)]] w
    fun e w' => e = .returned (.string ⟨(txtK q 4).toArray⟩) ∧ Below w.heap.size w w' := by
  have HQ := Lib.hid hq
  have HL := Lib.hid (txtK_len hq)
  have HT := Lib.hid (tabBelow_of_tabIs hT.2)
  obtain ⟨R, hR⟩ : ∃ R : ByteArray, R = ⟨(txtK q 4).toArray⟩ := ⟨_, rfl⟩
  have HR := Lib.hid hR
  rw [← hR]
  obtain ⟨W1, hW1⟩ : ∃ W1, W1 = w.alloc (.cells #[.int .i64 (q 0), .int .i64 (q 1), .int .i64 (q 2), .int .i64 (q 3)] 28) := ⟨_, rfl⟩
  have hb0 : Below w.heap.size w W1 := by rw [hW1]; exact (Below.refl w.heap.size w).alloc (Nat.le_refl _) _
  clear hq hT hR
  go_enter Tryd.func16, Tryd.ntmps16
  go_wp2_with fail
  rw [← hW1]
  clear hW1
  have HIX := Lib.hid (fun k (hk : k < 4) W => acc_index q k hk W)
  go_loopw [3, 15] (fun tv iv wr => ∃ (k n : Nat) (v : Value), k ≤ 4 ∧ iv = .int .i64 k ∧ tv = v ∧ n ≤ 88 ∧ Hid (n = (txtK q k).length) ∧ Hid (wr.ownsRow w.heap.size 5 1 v n (Lib.byteCells (txtK q k))) ∧ Below w.heap.size w wr) (fun _ iv _ => 4 - (RowKit.intOf iv).toNat)
  case atStart => exact ⟨0, 0, _, by omega, rfl, rfl, by omega, Lib.hid rfl, Lib.hid (World.ownsRow_nil _ _ _ _), hb0⟩
  case round =>
    obtain ⟨k, n, v, h7, rfl, rfl, hn, HN, HO, hb⟩ := hrel
    by_cases hlt : k < 4
    · have ix := HIX.out k hlt
      have j1 : (k : Int) < 4 := by omega
      have j0 : (0 : Int) ≤ (k : Int) := by omega
      have e1 : IntKind.i64.wrap ((k : Int) + 1) = (k : Int) + 1 := IntWalk.i64_in _ (by omega)
      have hqk := HQ.out k hlt
      have hl' := HL.out (k + 1) (by omega)
      have hlk : (txtK q (k + 1)).length = (txtK q k).length + ((if 0 < k then [(32 : UInt8)] else []).length + (itoa (q k)).length) := by
        show (txtK q k ++ ((if 0 < k then [32] else []) ++ itoa (q k))).length = _
        rw [List.length_append, List.length_append]
      by_cases h0 : 0 < k
      · have g1 : decide ((0 : Int) < (k : Int)) = true := by simp; omega
        obtain ⟨v', w3, hr, ho, hg, -⟩ := app_new Tryd.underlying66 infoU8 rfl (by omega) (by omega) w.heap.size 66 wr _ n _ HO.out 1 [.int .u8 32] rfl (fun u hu => by simp at hu; rcases hu with rfl; rfl) (by omega) hb.size
        have hb4 : Below w.heap.size w w3 := (hb.alloc hb.size _).grown hg (by simp; have := hb.size; omega) (fun j hj => (HO.out.lt j hj).1)
        have HA := Lib.hid (Tryd.strconv_AppendInt_10 w.heap.size (n + 1) (q k) (by omega) (by omega) v' _ w3 ho hb4.size (by omega) (HT.out.on hb4))
        have HX : Hid (Lib.byteCells (txtK q k) ++ [.int .u8 32] ++ Lib.byteCells (itoa (q k)) = Lib.byteCells (txtK q (k + 1)) ∧ n + 1 + (itoa (q k)).length = (txtK q (k + 1)).length) := Lib.hid (by
          refine ⟨?_, ?_⟩
          · show _ = Lib.byteCells (txtK q k ++ ((if 0 < k then [32] else []) ++ itoa (q k)))
            rw [if_pos h0]
            simp [Lib.byteCells]
          · rw [hlk, if_pos h0, HN.out]; simp; omega)
        have R1 := Lib.hid hr
        clear hr ho hg hlt hlk
        go_wp2_with (at_builtin; refine Lib.wpList_append_run _ rfl _ _ 66 66 rfl _ _ rfl rfl v' w3 (R1.out) ?_)
        refine (HA.out).mono ?_
        rintro e w5 ⟨v5, rfl, ho5, hb5, -⟩
        go_wp2_with fail
        exact ⟨⟨k + 1, n + 1 + (itoa (q k)).length, v5, by omega, rfl, rfl, by rw [HX.out.2]; omega, Lib.hid HX.out.2, Lib.hid (by rw [← HX.out.1]; exact ho5), hb4.trans hb5⟩, by simp [RowKit.intOf]; omega⟩
      · obtain rfl : k = 0 := by omega
        simp only [show ((0 : Nat) : Int) = 0 from rfl] at ix j1 j0 e1
        have hl2 : (txtK q 1).length ≤ 22 * (0 + 1) := hl'
        have HA := Lib.hid (Tryd.strconv_AppendInt_10 w.heap.size n (q 0) (by omega) (by omega) _ _ wr HO.out hb.size (by omega) (HT.out.on hb))
        have HX : Hid (Lib.byteCells (txtK q 0) ++ Lib.byteCells (itoa (q 0)) = Lib.byteCells (txtK q 1) ∧ n + (itoa (q 0)).length = (txtK q 1).length) := Lib.hid (by
          refine ⟨by simp [txtK, Lib.byteCells], ?_⟩
          rw [hlk, HN.out]; simp)
        clear hlt hlk h0
        go_wp2_with fail
        refine (HA.out).mono ?_
        rintro e w5 ⟨v5, rfl, ho5, hb5, -⟩
        go_wp2_with fail
        exact ⟨⟨1, n + (itoa (q 0)).length, v5, by omega, rfl, rfl, by rw [HX.out.2]; omega, Lib.hid HX.out.2, Lib.hid (by rw [← HX.out.1]; exact ho5), hb.trans hb5⟩, by simp [RowKit.intOf]⟩
    · obtain rfl : k = 4 := by omega
      have hpos : 0 < n := by
        rw [HN.out]
        have := itoa_ne (q 3)
        show 0 < (txtK q 3 ++ ((if 0 < 3 then [32] else []) ++ itoa (q 3))).length
        simp; omega
      have hcv := text_own HO.out HN.out hpos
      rw [← HR.out] at hcv
      go_wp2_with fail
      go_ret
      exact ⟨rfl, hb⟩

/-! The example. -/
def exD (j : Nat) : Int := if j = 0 then 19723 else if j = 1 then 19936 else 20120
def exG (j : Nat) : Int := if j = 0 then 3000 else 0
def exT (j : Nat) : Int := if j = 0 then 0 else if j = 1 then 2000 else 300
theorem ex_check : checkV 2024 500 3 20453 3 exD exG exT = 0 := by decide
theorem ex_year : yearIn 20453 2025 := by unfold yearIn; decide
theorem ex_years : yearsE 2024 500 3 20453 (mvL 3 exD exG exT) 2 = ⟨0, 0, 3000, 2300, 700⟩ := by rfl
def exQ (j : Nat) : Int := if j = 0 then 3000 else if j = 1 then 2300 else if j = 2 then 700 else 0
theorem ex_text : (⟨(txtK exQ 4).toArray⟩ : ByteArray) = ⟨#[51, 48, 48, 48, 32, 50, 51, 48, 48, 32, 55, 48, 48, 32, 48]⟩ := by decide +kernel
theorem mv3_in (w : World) (t : TypeId) : MvIn (w.alloc (.cells #[.int .i64 19723, .int .i64 3000, .int .i64 0, .int .i64 19936, .int .i64 0, .int .i64 2000, .int .i64 20120, .int .i64 0, .int .i64 300] t)) (some ⟨w.heap.size, 0, none⟩) 3 exD exG exT := by
  refine .inr ⟨_, _, rfl, fun j hj => ?_⟩
  have e : j = 0 ∨ j = 1 ∨ j = 2 := by omega
  rcases e with rfl | rfl | rfl <;> refine ⟨?_, ?_, ?_⟩ <;> (rw [World.cell?_alloc_new]; rfl)
set_option maxHeartbeats 1000000 in
set_option maxRecDepth 100000 in
theorem awake_any (w : World) (hT : Tab4 w) : Calls Tryd.prog 9 #[] w fun e w' => e = .returned (.bool true) ∧ Below w.heap.size w w' := by
  obtain ⟨W1, hW1⟩ : ∃ W1, W1 = w.alloc (.cells #[.int .i64 19723, .int .i64 3000, .int .i64 0, .int .i64 19936, .int .i64 0, .int .i64 2000, .int .i64 20120, .int .i64 0, .int .i64 300] 42) := ⟨_, rfl⟩
  have hb0 : Below w.heap.size w W1 := by rw [hW1]; exact (Below.refl _ _).alloc (Nat.le_refl _) _
  have HF := Lib.hid (fold_any 2024 500 3 20453 (some ⟨w.heap.size, 0, none⟩) 3 3 exD exG exT W1 (by omega) (by omega) (by rw [hW1]; exact mv3_in w _) (hT.stay hb0).1)
  have HX := Lib.hid (fun W (hW : Tab4 W) => Text_any exQ (fun j hj => by unfold exQ; split; omega; split; omega; split <;> omega) W hW)
  rw [ex_text] at HX
  have HT := Lib.hid (hT.stay hb0)
  rw [hW1] at HF
  clear hT
  go_enter Tryd.func9, Tryd.ntmps9
  go_wp2_with fail
  refine (HF.out).mono ?_
  rintro e w2 ⟨hb2, hr⟩
  rcases hr with ⟨h, -⟩ | ⟨-, Y, hY, rfl⟩
  · exact absurd ex_check h
  obtain rfl := year_one hY ex_year
  rw [show ((2025 : Int) + 1 - 2024).toNat = 2 by rfl, ex_years]
  rw [← hW1] at hb2
  have hb3 := hb0.trans (hb2.mono hb0.size)
  have HT2 := Lib.hid (HT.out.stay hb2)
  unfold accV
  simp only [Int.add_zero]
  have hb4 := hb3.alloc hb3.size (.cells #[.int .i64 3000, .int .i64 2300, .int .i64 700, .int .i64 0] 28)
  have HT3 := Lib.hid (HT2.out.stay ((Below.refl w2.heap.size w2).alloc (Nat.le_refl _) (.cells #[.int .i64 3000, .int .i64 2300, .int .i64 700, .int .i64 0] 28)))
  clear HF hY hW1
  go_wp2_with fail
  refine (HX.out _ HT3.out).mono ?_
  rintro e w4 ⟨rfl, hb5⟩
  go_wp2
  go_ret
  exact ⟨rfl, hb4.trans (hb5.mono hb4.size)⟩

end Go.Proofs.YtpejdbnphjheeaaDoor
