/-
  What is proved: the contracts of share.Split, UpTo and Between. Conditions: the weights lie in memory as the contract says.
-/
import Derived.Test.YtkhjlpjhmdmfiaaShareD
namespace Go.Proofs.Ytkhjlpjhmdmfiaa
open Go Go.RowKit Go.Proofs

def splitE (t : Int) (n : Nat) (wt : Nat → Int) : Int := if fitB t = true then weighE n wt else 9
set_option maxHeartbeats 1000000 in
theorem Split_err (t : Int) (p : Option Addr) (n cp : Nat) (wt : Nat → Int) (w : World) (hn : n ≤ 9223372036854775807) (h : Wts w p n wt) (he : splitE t n wt ≠ 0) : Calls Try.prog 11 #[.int .i64 t, .slice p n cp] w fun e w' => e = .returned (.tuple #[.slice none 0 0, .int .i64 (splitE t n wt)]) ∧ w' = w := by
  have HW := Lib.hid (weigh_any p n cp wt w hn h)
  clear h
  cases hf : fitB t
  case false =>
    rw [show splitE t n wt = 9 by simp [splitE, hf]]
    clear he HW
    go_enter Try.func11, Try.ntmps11
    go_wp2_with fail
    refine (fits_any _ _).mono ?_
    rintro e w' ⟨rfl, rfl⟩
    go_wp2
    go_ret2
    exact ⟨rfl, rfl⟩
  case true =>
    have e1 : splitE t n wt = weighE n wt := by simp [splitE, hf]
    rw [e1] at he ⊢
    generalize weighE n wt = E at he HW ⊢
    have dE : (E != 0) = true := by simp [he]
    clear e1
    go_enter Try.func11, Try.ntmps11
    go_wp2_with fail
    refine (fits_any _ _).mono ?_
    rintro e w' ⟨rfl, hw⟩
    rw [hw]
    go_wp2_with fail
    refine (HW.out).mono ?_
    rintro e w2 ⟨rfl, hw2⟩
    rw [hw2]
    go_wp2
    go_ret2
    exact ⟨rfl, rfl⟩
theorem weigh_zero {n : Nat} {wt : Nat → Int} (h : weighE n wt = 0) : 0 < n ∧ n ≤ 64 ∧ allIn wt n = true ∧ 0 < sumN (natW wt) n ∧ weighV n wt = sumN (natW wt) n := by
  refine ⟨?_, ?_, ?_, ?_, by simp [weighV, h]⟩ <;> unfold weighE at h <;> split at h <;> first | omega | skip
  all_goals split at h <;> first | omega | skip
  all_goals split at h <;> first | omega | skip
  all_goals first | assumption | skip
  all_goals split at h <;> omega
/-- What Split leaves. -/
def SplitOk (t : Int) (n : Nat) (wt : Nat → Nat) (w : World) (e : Ending) (w' : World) : Prop := ∃ g f, e = .returned (.tuple #[.slice (some ⟨g, 0, none⟩) n n, .int .i64 0]) ∧ w.heap.size ≤ g ∧ g < w'.heap.size ∧ Good (rsN t.natAbs (sumN wt n) wt) f 0 n ∧ RowV w' g n (fun j => .int .i64 (sg t * (bump f (whN t.natAbs (sumN wt n) wt) (leftN t.natAbs (sumN wt n) wt n) j : Int))) ∧ Below w.heap.size w w'
set_option maxHeartbeats 1000000 in
theorem Split_ok (t : Int) (p : Option Addr) (n cp : Nat) (wt : Nat → Int) (w : World) (h : Wts w p n wt) (he : splitE t n wt = 0) : Calls Try.prog 11 #[.int .i64 t, .slice p n cp] w (SplitOk t n (natW wt) w) := by
  have hf : fitB t = true := by
    cases hf : fitB t
    · simp [splitE, hf] at he
    · rfl
  have hw0 : weighE n wt = 0 := by simpa [splitE, hf] using he
  obtain ⟨n0, n64, hall, hpos, hV⟩ := weigh_zero hw0
  have HW := weigh_any p n cp wt w (by omega) h
  rw [hV, hw0] at HW
  rcases h with h | ⟨b, o, rfl, hc⟩
  · omega
  have hin := allIn_all hall
  have hc2 : ∀ j, j < n → w.cell? ⟨b, o + j, none⟩ = some (.int .i64 (natW wt j : Int)) := fun j hj => by
    rw [hc j hj]; congr 2; unfold natW; have := hin j hj; omega
  have hbl : b < w.heap.size := World.block_lt_of_cell? w _ (hc 0 n0)
  have hSb : sumN (natW wt) n ≤ 72057594037927936 := by
    have h1 := sumN_bound (r := natW wt) (b := 1125899906842624) n (fun j hj => by unfold natW; have := hin j hj; omega)
    have h2 := Nat.mul_le_mul_right 1125899906842624 n64
    omega
  have HSP := Lib.hid (split_any t b o n cp (sumN (natW wt) n) (natW wt) w hf n64 hbl hc2 rfl hpos hSb)
  unfold SplitOk
  have HW := Lib.hid HW
  clear hc hc2 hin hall hV hw0 he hpos hSb
  generalize natW wt = nw at HSP HW ⊢
  generalize sumN nw n = S at HSP HW ⊢
  go_enter Try.func11, Try.ntmps11
  go_wp2_with fail
  refine (fits_any _ _).mono ?_
  rintro e w1 ⟨rfl, hw⟩
  rw [hw]
  go_wp2_with fail
  refine (HW.out).mono ?_
  rintro e w2 ⟨rfl, hw2⟩
  rw [hw2]
  go_wp2_with fail
  refine (HSP.out).mono ?_
  rintro e w3 ⟨g, f, rfl, x1, x2, x3, x4, x5⟩
  have X3 := Lib.hid x3
  have X4 := Lib.hid x4
  clear x3 x4
  go_wp2
  go_ret2
  exact ⟨g, f, rfl, x1, x2, X3.out, X4.out, x5⟩

def upE (t a f : Int) : Int := if wholeE t f = 0 then (if inB a f = true then 0 else 2) else wholeE t f
def upR (t a f : Int) : Int := if upE t a f = 0 then upV t a f else 0
theorem whole_zero {t f : Int} (h : wholeE t f = 0) : fitB t = true ∧ 0 < f ∧ f ≤ 1125899906842624 := by
  unfold wholeE at h
  split at h
  · rename_i h1
    split at h
    · omega
    · rename_i h2
      split at h
      · rename_i h3
        simp [inB] at h3
        exact ⟨h1, by omega, h3.2⟩
      · omega
  · omega
set_option maxHeartbeats 1000000 in
theorem UpTo_any (t a f : Int) (w : World) : Calls Try.prog 14 #[.int .i64 t, .int .i64 a, .int .i64 f] w fun e w' => e = .returned (.tuple #[.int .i64 (upR t a f), .int .i64 (upE t a f)]) ∧ ∃ n, w' = w.drewN n := by
  have HWH := Lib.hid (whole_any t f w)
  by_cases h0 : wholeE t f = 0
  · obtain ⟨z1, z2, z3⟩ := whole_zero h0
    rw [h0] at HWH
    cases hi : inB a f
    case false =>
      rw [show upR t a f = 0 by simp [upR, upE, h0, hi], show upE t a f = 2 by simp [upE, h0, hi]]
      clear h0 z1
      go_enter Try.func14, Try.ntmps14
      go_wp2_with fail
      refine (HWH.out).mono ?_
      rintro e w1 ⟨rfl, hw⟩
      rw [hw]
      go_wp2_with fail
      refine (within_any _ _ _).mono ?_
      rintro e w2 ⟨rfl, hw2⟩
      rw [hw2]
      go_wp2
      go_ret2
      exact ⟨rfl, 0, rfl⟩
    case true =>
      have hi2 : 0 ≤ a ∧ a ≤ f := by simpa [inB] using hi
      rw [show upR t a f = upV t a f by simp [upR, upE, h0, hi], show upE t a f = 0 by simp [upE, h0, hi]]
      have HU := Lib.hid (upTo_any t a f z1 hi2.1 hi2.2 z2 z3)
      clear h0 z1 hi2
      generalize upV t a f = V at HU ⊢
      go_enter Try.func14, Try.ntmps14
      go_wp2_with fail
      refine (HWH.out).mono ?_
      rintro e w1 ⟨rfl, hw⟩
      rw [hw]
      go_wp2_with fail
      refine (within_any _ _ _).mono ?_
      rintro e w2 ⟨rfl, hw2⟩
      rw [hw2]
      go_wp2_with fail
      refine (HU.out _).mono ?_
      rintro e w3 ⟨rfl, m, rfl⟩
      go_wp2
      go_ret2
      exact ⟨rfl, m, rfl⟩
  · rw [show upR t a f = 0 by simp [upR, upE, h0], show upE t a f = wholeE t f by simp [upE, h0]]
    generalize wholeE t f = E at HWH h0 ⊢
    have dE : (E != 0) = true := by simp [h0]
    go_enter Try.func14, Try.ntmps14
    go_wp2_with fail
    refine (HWH.out).mono ?_
    rintro e w1 ⟨rfl, hw⟩
    rw [hw]
    go_wp2
    go_ret2
    exact ⟨rfl, 0, rfl⟩
def betE (t a b f : Int) : Int := if wholeE t f = 0 then (if inB a f = true ∧ inB b f = true then (if b < a then 8 else 0) else 2) else wholeE t f
def betR (t a b f : Int) : Int := if betE t a b f = 0 then upV t b f - upV t a f else 0

end Go.Proofs.Ytkhjlpjhmdmfiaa
