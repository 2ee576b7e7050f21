/-
  What is proved: the contract of the document's Step: it is the program's. Conditions: slices are shorter than 2^62.
-/
import Derived.Test.YtbflgckmhhmklaaTxK
import Derived.BigQuiet
namespace Go.Proofs.Ytbflgckmhhmklaa
open Go Go.RowKit Go.Proofs
set_option linter.unusedVariables false

set_option maxHeartbeats 8000000 in
set_option maxRecDepth 100000 in
theorem rStep_any (B T b idx of al ex : Int) (p : Option Addr) (n cp : Nat) (f : Nat → Bd) (w : World) (hn : n ≤ 4611686018427387904) (hf : BdIn w p n f) :
    Calls Try.prog 16 #[.int .i64 B, .int .i64 T, .int .i64 b, .int .i64 idx, .int .i64 of, .agg #[.int .i64 al, .int .i64 ex, .slice p n cp]] w fun e w' =>
      e = .returned (.tuple #[.int .i64 (stpV B T b idx of al ex f n).1, .int .i64 (stpV B T b idx of al ex f n).2.1, .int .i64 (stpV B T b idx of al ex f n).2.2, .int .i64 (stpE B T b idx of al ex f n)]) ∧ Below w.heap.size w w' := by
  have hb0 : Below w.heap.size w (w.alloc (.cells #[.int .i64 al, .int .i64 ex, .slice p n cp] 25)) := (Below.refl _ _).alloc (Nat.le_refl _) _
  have hcd := Cd.new w al ex p n cp 25
  have HF1 := Lib.hid (fun W => rfits_any B W)
  have HF2 := Lib.hid (fun W => rfits_any T W)
  have HF3 := Lib.hid (fun W => rfits_any b W)
  have HF4 := Lib.hid (fun W => rfits_any (B + b) W)
  have HD := Lib.hid (fun W hb => rToDate_any (B + b) idx of al ex p n cp f W hn (hf.kp (w' := W) hb))
  have hE : stpE B T b idx of al ex f n = if ((fitsB B && fitsB T) && fitsB b) = true then (if fitsB (B + b) = true then (if todE (B + b) idx of al ex f n = 0 then (if fitsB (todV (B + b) idx of al ex f n - T + ex) = true then 0 else 9) else todE (B + b) idx of al ex f n) else 9) else 2 := rfl
  have hV : stpV B T b idx of al ex f n = if stpE B T b idx of al ex f n = 0 then (B + b, todV (B + b) idx of al ex f n, todV (B + b) idx of al ex f n - T + ex) else (B, T, 0) := rfl
  have hx := Lib.hid (fun h => (okT_iff.1 (@tod_ex (B + b) idx of al ex f n h)).2.2.2)
  obtain ⟨v0, v1⟩ := todV_bd (B + b) idx of al ex f n
  have hB := Lib.hid (@fitsB_iff B)
  have hT := Lib.hid (@fitsB_iff T)
  have hb := Lib.hid (@fitsB_iff b)
  generalize stpV B T b idx of al ex f n = V at hV ⊢
  generalize stpE B T b idx of al ex f n = E at hE hV ⊢
  generalize todV (B + b) idx of al ex f n = TV at HD hE hV v0 v1
  generalize todE (B + b) idx of al ex f n = TE at HD hE hx
  have HF5 := Lib.hid (fun W => rfits_any (TV - T + ex) W)
  replace hE := Lib.hid hE
  replace hV := Lib.hid hV
  clear hf
  go_enter Try.func16, Try.ntmps16
  go_upto_region 1 with fail
  generalize (w.alloc (.cells #[.int .i64 al, .int .i64 ex, .slice p n cp] 25)) = W0 at hb0 hcd ⊢
  have HC := Lib.hid hcd
  obtain ⟨s0, s1, s2⟩ := hcd
  by_cases k : ((fitsB B && fitsB T) && fitsB b) = true
  case neg =>
    obtain rfl : E = 2 := by rw [hE.out, if_neg k]
    obtain rfl : V = (B, T, 0) := by rw [hV.out, if_neg (by decide)]
    have hw : fitsB B = false ∨ (fitsB B = true ∧ fitsB T = false) ∨ (fitsB B = true ∧ fitsB T = true ∧ fitsB b = false) := by
      revert k; cases fitsB B <;> cases fitsB T <;> cases fitsB b <;> simp
    clear hE hV k
    rcases hw with k1 | ⟨k1, k2⟩ | ⟨k1, k2, k3⟩
    · rw [k1] at HF1
      clear hx hB hT hb HD k1
      go_wp2_with fail
      refine (HF1.out _).mono ?_
      rintro e w11 ⟨rfl, rfl⟩
      go_wp2
      refine bodyPost_ret (v := .tuple #[.int .i64 (B), .int .i64 (T), .int .i64 (0), .int .i64 (2)]) (by simp [results, Try.results16, go_sem]) rfl ?_
      exact ⟨rfl, hb0⟩
    · rw [k1] at HF1
      rw [k2] at HF2
      clear hx hB hT hb HD k1 k2
      go_wp2_with fail
      refine (HF1.out _).mono ?_
      rintro e w11 ⟨rfl, rfl⟩
      go_wp2_with fail
      refine (HF2.out _).mono ?_
      rintro e w12 ⟨rfl, rfl⟩
      go_wp2
      refine bodyPost_ret (v := .tuple #[.int .i64 (B), .int .i64 (T), .int .i64 (0), .int .i64 (2)]) (by simp [results, Try.results16, go_sem]) rfl ?_
      exact ⟨rfl, hb0⟩
    · rw [k1] at HF1
      rw [k2] at HF2
      rw [k3] at HF3
      clear hx hB hT hb HD k1 k2 k3
      go_wp2_with fail
      refine (HF1.out _).mono ?_
      rintro e w11 ⟨rfl, rfl⟩
      go_wp2_with fail
      refine (HF2.out _).mono ?_
      rintro e w12 ⟨rfl, rfl⟩
      go_wp2_with fail
      refine (HF3.out _).mono ?_
      rintro e w13 ⟨rfl, rfl⟩
      go_wp2
      refine bodyPost_ret (v := .tuple #[.int .i64 (B), .int .i64 (T), .int .i64 (0), .int .i64 (2)]) (by simp [results, Try.results16, go_sem]) rfl ?_
      exact ⟨rfl, hb0⟩
  case pos =>
  have hE2 : E = if fitsB (B + b) = true then (if TE = 0 then (if fitsB (TV - T + ex) = true then 0 else 9) else TE) else 9 := by rw [hE.out, if_pos k]
  replace hE2 := Lib.hid hE2
  obtain ⟨⟨k1, k2⟩, k3⟩ : (fitsB B = true ∧ fitsB T = true) ∧ fitsB b = true := by simpa using k
  obtain ⟨B0, B1⟩ := hB.out.1 k1
  obtain ⟨T0, T1⟩ := hT.out.1 k2
  obtain ⟨q0, q1⟩ := hb.out.1 k3
  rw [k1] at HF1
  rw [k2] at HF2
  rw [k3] at HF3
  clear hE k hB hT hb k1 k2 k3
  by_cases k4 : fitsB (B + b) = true
  case neg =>
    obtain rfl : E = 9 := by rw [hE2.out, if_neg k4]
    obtain rfl : V = (B, T, 0) := by rw [hV.out, if_neg (by decide)]
    rw [Bool.not_eq_true] at k4
    rw [k4] at HF4
    clear hE2 hV hx HD k4
    go_wp2_with fail
    refine (HF1.out _).mono ?_
    rintro e w11 ⟨rfl, rfl⟩
    go_wp2_with fail
    refine (HF2.out _).mono ?_
    rintro e w12 ⟨rfl, rfl⟩
    go_wp2_with fail
    refine (HF3.out _).mono ?_
    rintro e w13 ⟨rfl, rfl⟩
    go_wp2_with fail
    refine (HF4.out _).mono ?_
    rintro e w14 ⟨rfl, rfl⟩
    go_wp2
    refine bodyPost_ret (v := .tuple #[.int .i64 (B), .int .i64 (T), .int .i64 (0), .int .i64 (9)]) (by simp [results, Try.results16, go_sem]) rfl ?_
    exact ⟨rfl, hb0⟩
  case pos =>
  have hE3 := Lib.hid (show E = if TE = 0 then (if fitsB (TV - T + ex) = true then 0 else 9) else TE by rw [hE2.out, if_pos k4])
  clear hE2
  rw [k4] at HF4
  go_wp2_with fail
  refine (HF1.out _).mono ?_
  rintro e w11 ⟨rfl, rfl⟩
  go_wp2_with fail
  refine (HF2.out _).mono ?_
  rintro e w12 ⟨rfl, rfl⟩
  go_wp2_with fail
  refine (HF3.out _).mono ?_
  rintro e w13 ⟨rfl, rfl⟩
  go_wp2_with fail
  refine (HF4.out _).mono ?_
  rintro e w14 ⟨rfl, rfl⟩
  go_wp2_with fail
  refine (HD.out _ hb0).mono ?_
  rintro e w1 ⟨rfl, hb1⟩
  have hk : Below w.heap.size w w1 := hb0.trans (hb1.mono hb0.size)
  clear s0 s1 s2
  obtain ⟨s0, s1, s2⟩ := HC.out.kp hb1
  by_cases h0 : TE = 0
  case neg =>
    have d0 : (TE != 0) = true := by simpa using h0
    have hE9 : E = TE := by rw [hE3.out, if_neg h0]
    obtain rfl : V = (B, T, 0) := by rw [hV.out, hE9, if_neg h0]
    subst hE9
    clear h0 hE3 hV hx
    go_wp2
    refine bodyPost_ret (v := .tuple #[.int .i64 (B), .int .i64 (T), .int .i64 (0), .int .i64 (E)]) (by simp [results, Try.results16, go_sem]) rfl ?_
    exact ⟨rfl, hk⟩
  case pos =>
    obtain ⟨x0, x1⟩ := hx.out h0
    subst h0
    by_cases k5 : fitsB (TV - T + ex) = true
    case neg =>
      obtain rfl : E = 9 := by rw [hE3.out, if_pos rfl, if_neg k5]
      obtain rfl : V = (B, T, 0) := by rw [hV.out, if_neg (by decide)]
      rw [Bool.not_eq_true] at k5
      rw [k5] at HF5
      clear hE3 hV hx
      go_wp2_with fail
      refine (HF5.out _).mono ?_
      rintro e w15 ⟨rfl, rfl⟩
      go_wp2
      refine bodyPost_ret (v := .tuple #[.int .i64 (B), .int .i64 (T), .int .i64 (0), .int .i64 (9)]) (by simp [results, Try.results16, go_sem]) rfl ?_
      exact ⟨rfl, hk⟩
    case pos =>
      obtain rfl : E = 0 := by rw [hE3.out, if_pos rfl, if_pos k5]
      obtain rfl : V = (B + b, TV, TV - T + ex) := by rw [hV.out, if_pos rfl]
      clear hE3 hV hx
      rw [k5] at HF5
      go_wp2_with fail
      refine (HF5.out _).mono ?_
      rintro e w15 ⟨rfl, rfl⟩
      go_upto_region 10 with fail
      go_quiet (fail)
      go_wp2
      refine bodyPost_ret (v := .tuple #[.int .i64 (B + b), .int .i64 (TV), .int .i64 (TV - T + ex), .int .i64 (0)]) (by simp [results, Try.results16, go_sem]) rfl ?_
      exact ⟨rfl, ⟨hk.os, hk.tape, hk.output, hk.size, hk.block⟩⟩

end Go.Proofs.Ytbflgckmhhmklaa
