/-
  What is proved: the walk of the statement CentsBack: the call returns true. Conditions: the table of powers of ten reads as the library lays it.
-/
import Derived.Test.YthdjpkpkkdnofaaDoorAwake
import Derived.Test.YthdjpkpkkdnofaaDoorSum
namespace Go.Proofs.YthdjpkpkkdnofaaDoor
open Go Go.RowKit Go.Lib Go.Proofs
set_option linter.unusedVariables false

theorem add_turn (a b : Int) : addV b a = addV a b ∧ addE b a = addE a b := by
  have h : (fitsB b = true ∧ fitsB a = true) = (fitsB a = true ∧ fitsB b = true) := propext And.comm
  simp only [addV, addE, Int.add_comm b a, h, and_self]
theorem add_err (a b : Int) (h : addE a b ≠ 0) : addV a b = 0 := by
  unfold addE at h
  unfold addV
  split
  · rename_i hf
    rw [if_pos hf] at h
    unfold inE at h
    unfold inV
    split
    · rename_i hg; rw [if_pos hg] at h; exact absurd rfl h
    · rfl
  · rfl
theorem add_ok (a b : Int) (h : addE a b = 0) : fitsB a = true ∧ fitsB b = true ∧ fitsB (a + b) = true ∧ addV a b = a + b := by
  unfold addE at h
  unfold addV
  split at h
  · rename_i hf
    rw [if_pos hf]
    unfold inE at h
    unfold inV
    split at h
    · rename_i hg; rw [if_pos hg]; exact ⟨hf.1, hf.2, hg, rfl⟩
    · omega
  · omega
theorem sub_back (a b : Int) (ha : fitsB a = true) (hb : fitsB b = true) (hs : fitsB (a + b) = true) : subV (a + b) b = a ∧ subE (a + b) b = 0 := by
  unfold subV subE inV inE
  rw [show a + b - b = a by omega]
  simp [ha, hb, hs]
theorem add_zero (a : Int) (ha : fitsB a = true) : addV 0 a = a ∧ addE 0 a = 0 := by
  have h0 : fitsB 0 = true := by decide
  unfold addV addE inV inE
  rw [Int.zero_add]
  simp [ha, h0]
theorem sum_two (a b : Int) (ha : fitsB a = true) (he : addE a b = 0) : sumVE 0 [a, b] = (addV a b, 0) := by
  obtain ⟨h1, h2⟩ := add_zero a ha
  simp [sumVE, h1, h2, he]

set_option maxHeartbeats 1000000 in
set_option maxRecDepth 100000 in
theorem walkCentsBack (a b : Int) (w : World) (w0 : (Lit.int .i64 a).wf = true) (w1 : (Lit.int .i64 b).wf = true) (htab : TabIs Tryd.prog w "internal/strconv.uint64pow10" .u64 pow10Tab) :
    Calls Tryd.prog 8 #[.int .i64 a, .int .i64 b] w fun e w' => e = .returned (.bool true) ∧ Below w.heap.size w w' := by
  clear w0 w1
  have HA := Lib.hid (add_any a b w)
  have hB := add_any b a w
  rw [(add_turn a b).1, (add_turn a b).2] at hB
  have HB := Lib.hid hB
  clear hB
  by_cases he : addE a b = 0
  · obtain ⟨fa, fb, fs, hv⟩ := add_ok a b he
    have hA := HA.out
    have hB := HB.out
    rw [he, hv] at hA hB
    clear HA HB
    have hS := sub_any (a + b) b w
    rw [(sub_back a b fa fb fs).1, (sub_back a b fa fb fs).2] at hS
    have hrow : Row (w.alloc (.cells #[.int .i64 a, .int .i64 b] 22)) (.slice (some ⟨w.heap.size, 0, none⟩) 2 2) [a, b] :=
      ⟨_, 2, rfl, by simp [maxLen], .inr ⟨_, _, rfl, fun i c hi => by
        rw [Nat.zero_add, World.cell?_alloc_new]
        match i, hi with
        | 0, hi => simp at hi; simp [hi]
        | 1, hi => simp at hi; simp [hi]⟩⟩
    have hT := sum_row _ [a, b] _ hrow
    rw [sum_two a b fa he, hv] at hT
    have hF := fits_any (a + b) (w.alloc (.cells #[.int .i64 a, .int .i64 b] 22))
    rw [fs] at hF
    have hW := awake_any (w.alloc (.cells #[.int .i64 a, .int .i64 b] 22)) (tabIs_alloc htab _)
    have H1 := Lib.hid hA
    have H2 := Lib.hid hB
    have H3 := Lib.hid hS
    have H4 := Lib.hid hT
    have H5 := Lib.hid hF
    have H6 := Lib.hid hW
    clear hA hB hS hT hF hW hrow he hv fa fb fs
    go_enter Tryd.func8, Tryd.ntmps8
    go_wp2_with fail
    refine (H1.out).mono ?_
    rintro e w' ⟨rfl, rfl⟩
    go_wp2_with fail
    refine (H2.out).mono ?_
    rintro e w' ⟨rfl, rfl⟩
    go_wp2_with fail
    refine (H3.out).mono ?_
    rintro e w' ⟨rfl, rfl⟩
    go_wp2_with fail
    refine (H4.out).mono ?_
    rintro e w' ⟨rfl, rfl⟩
    go_wp2_with fail
    refine (H5.out).mono ?_
    rintro e w' ⟨rfl, rfl⟩
    go_wp2_with fail
    refine (H6.out).mono ?_
    rintro e w' ⟨rfl, hb⟩
    go_wp2
    go_ret
    exact ⟨rfl, ((Below.refl _ w).alloc (Nat.le_refl _) _).trans (hb.mono (by simp))⟩
  · have hv := add_err a b he
    have hA := HA.out
    have hB := HB.out
    rw [hv] at hA hB
    have H1 := Lib.hid hA
    have H2 := Lib.hid hB
    have H6 := Lib.hid (awake_any w htab)
    have hn : (addE a b != 0) = true := by simp [he]
    clear hA hB HA HB hv he
    go_enter Tryd.func8, Tryd.ntmps8
    go_wp2_with fail
    refine (H1.out).mono ?_
    rintro e w' ⟨rfl, rfl⟩
    go_wp2_with fail
    refine (H2.out).mono ?_
    rintro e w' ⟨rfl, rfl⟩
    go_wp2_with fail
    refine (H6.out).mono ?_
    rintro e w' ⟨rfl, hb⟩
    go_wp2
    go_ret
    exact ⟨rfl, hb⟩

end Go.Proofs.YthdjpkpkkdnofaaDoor
