/-
  What is proved: the contracts of period's isDay, Check, isWhole, firstDay, lastDay, around and pay. Conditions: the tables read as their texts lay them.
-/
import Derived.Test.YtfmabjfibjnkoaaDoorPCivB
import Derived.Test.YtfmabjfibjnkoaaDoorPdMath
import Derived.Laws.StructEq
import Derived.Deep.RegionHeld3
namespace Go.Proofs.YtfmabjfibjnkoaaDoor
open Go Go.RowKit Go.Proofs
set_option linter.unusedVariables false

/-- The table of periods' lengths lies as its text says. -/
def PLen (w : World) : Prop := w.cell? ⟨0, 0, none⟩ = some (.int .i64 0) ∧ w.cell? ⟨0, 1, none⟩ = some (.int .i64 14) ∧ w.cell? ⟨0, 2, none⟩ = some (.int .i64 28)
def Tabs (w : World) : Prop := Len w ∧ PLen w
theorem stay {W W' : World} {a : Addr} {v : Value} (hb : Below W.heap.size W W') (x : W.cell? a = some v) : W'.cell? a = some v := (hb.cell (World.block_lt_of_cell? _ _ x)).trans x
theorem Tabs.stay {W W' : World} (h : Tabs W) (hb : Below W.heap.size W W') : Tabs W' := ⟨h.1.below hb (Nat.le_refl _), YtfmabjfibjnkoaaDoor.stay hb h.2.1, YtfmabjfibjnkoaaDoor.stay hb h.2.2.1, YtfmabjfibjnkoaaDoor.stay hb h.2.2.2⟩
theorem kb_drew {W0 : World} : Below W0.heap.size W0 W0.drew := (Below.refl _ _).drew
theorem kb_call {C : Prop} {W0 w w' : World} (hb : Below w.heap.size w w') (h : C ∧ Below W0.heap.size W0 w) : Below W0.heap.size W0 w' := h.2.trans (hb.mono h.2.size)
theorem bcell {W w1 : World} (hb : Below W.heap.size W w1) : (∀ b o, b < W.heap.size → w1.cell? ⟨b, o, none⟩ = W.cell? ⟨b, o, none⟩) := fun b o h => hb.cell (p := ⟨b, o, none⟩) h

theorem isDay_any (d : Int) (w : World) (hL : Len w) : Calls Tryd.prog 25 #[.int .i64 d] w fun e w' => e = .returned (.bool (inB d)) ∧ Below w.heap.size w w' := by
  cases hin : inB d with
  | false =>
    have HT := Lib.hid (to_no d hin w)
    clear hin
    go_enter Tryd.func25, Tryd.ntmps25
    go_wp2_with fail
    refine (HT.out).mono ?_
    rintro e w1 ⟨rfl, hb⟩
    go_wp2
    go_ret
    exact ⟨rfl, hb⟩
  | true =>
    obtain ⟨h1, h2⟩ := inB_iff.1 hin
    obtain ⟨y, m, e, ho, hn⟩ := date_of d h1 h2
    have HT := Lib.hid (to_yes y m e d ho hn w hL)
    have y1 := (okB_iff.1 ho).1
    have e0 : (y == 0) = false := by simp; omega
    clear hin ho hn
    go_enter Tryd.func25, Tryd.ntmps25
    go_wp2_with fail
    refine (HT.out).mono ?_
    rintro e w1 ⟨rfl, hb⟩
    go_wp2
    go_ret
    exact ⟨rfl, hb⟩

/-- What is wrong with a calendar. -/
def chkC (k f l : Int) : Int := if k < 0 ∨ 2 < k then 11 else if inB f = false then 15 else if l < 0 ∨ 60 < l then 2 else 0
theorem chkC_zero {k f l : Int} (h : chkC k f l = 0) : (k = 0 ∨ k = 1 ∨ k = 2) ∧ inB f = true ∧ 0 ≤ l ∧ l ≤ 60 := by
  unfold chkC at h
  split at h
  · omega
  · split at h
    · omega
    · rename_i h2
      split at h
      · omega
      · exact ⟨by omega, by simpa using h2, by omega, by omega⟩
theorem Check_any (k f l : Int) (w : World) (hL : Len w) : Calls Tryd.prog 16 #[.agg #[.int .i64 k, .int .i64 f, .int .i64 l]] w fun e w' => e = .returned (.int .i64 (chkC k f l)) ∧ Below w.heap.size w w' := by
  obtain ⟨W1, hW1⟩ : ∃ W1, W1 = w.alloc (.cells #[.int .i64 k, .int .i64 f, .int .i64 l] 24) := ⟨_, rfl⟩
  have hb0 : Below w.heap.size w W1 := by rw [hW1]; exact (Below.refl w.heap.size w).alloc (Nat.le_refl _) _
  have x2 : W1.cell? ⟨w.heap.size, 2, none⟩ = some (.int .i64 l) := by rw [hW1, World.cell?_alloc_new]; rfl
  have HI := isDay_any f W1 (hL.below hb0 (Nat.le_refl _))
  obtain ⟨R, hR⟩ : ∃ R, R = chkC k f l := ⟨_, rfl⟩
  rw [← hR]
  rcases Int.lt_or_le k 0 with h1 | h1
  · have HR : Hid (R = 11) := Lib.hid (by rw [hR]; unfold chkC; rw [if_pos (.inl h1)])
    clear hR HI
    go_enter Tryd.func16, Tryd.ntmps16
    go_wp2
    rw [← hW1]
    go_ret
    exact ⟨by rw [HR.out]; rfl, hb0⟩
  rcases Int.lt_or_le 2 k with h2 | h2
  · have HR : Hid (R = 11) := Lib.hid (by rw [hR]; unfold chkC; rw [if_pos (.inr h2)])
    clear hR HI
    go_enter Tryd.func16, Tryd.ntmps16
    go_wp2
    rw [← hW1]
    go_ret
    exact ⟨by rw [HR.out]; rfl, hb0⟩
  cases hin : inB f with
  | false =>
    rw [hin] at HI
    have HI := Lib.hid HI
    have HR : Hid (R = 15) := Lib.hid (by rw [hR]; unfold chkC; rw [if_neg (by omega), if_pos hin])
    clear hR hin
    go_enter Tryd.func16, Tryd.ntmps16
    go_wp2_with fail
    rw [← hW1]
    clear hW1
    refine (HI.out).mono ?_
    rintro e w2 ⟨rfl, hb2⟩
    have hb3 := hb0.trans (hb2.mono hb0.size)
    go_wp2
    go_ret
    exact ⟨by rw [HR.out]; rfl, hb3⟩
  | true =>
    rw [hin] at HI
    have HI := Lib.hid HI
    rcases Int.lt_or_le l 0 with h3 | h3
    · have HR : Hid (R = 2) := Lib.hid (by rw [hR]; unfold chkC; rw [if_neg (by omega), if_neg (by rw [hin]; simp), if_pos (.inl h3)])
      clear hR hin
      go_enter Tryd.func16, Tryd.ntmps16
      go_wp2_with fail
      rw [← hW1]
      clear hW1
      refine (HI.out).mono ?_
      rintro e w2 ⟨rfl, hb2⟩
      have hb3 := hb0.trans (hb2.mono hb0.size)
      have y2 := stay hb2 x2
      go_wp2
      go_ret
      exact ⟨by rw [HR.out]; rfl, hb3⟩
    rcases Int.lt_or_le 60 l with h4 | h4
    · have HR : Hid (R = 2) := Lib.hid (by rw [hR]; unfold chkC; rw [if_neg (by omega), if_neg (by rw [hin]; simp), if_pos (.inr h4)])
      clear hR hin
      go_enter Tryd.func16, Tryd.ntmps16
      go_wp2_with fail
      rw [← hW1]
      clear hW1
      refine (HI.out).mono ?_
      rintro e w2 ⟨rfl, hb2⟩
      have hb3 := hb0.trans (hb2.mono hb0.size)
      have y2 := stay hb2 x2
      go_wp2
      go_ret
      exact ⟨by rw [HR.out]; rfl, hb3⟩
    · have HR : Hid (R = 0) := Lib.hid (by rw [hR]; unfold chkC; rw [if_neg (by omega), if_neg (by rw [hin]; simp), if_neg (by omega)])
      clear hR hin
      go_enter Tryd.func16, Tryd.ntmps16
      go_wp2_with fail
      rw [← hW1]
      clear hW1
      refine (HI.out).mono ?_
      rintro e w2 ⟨rfl, hb2⟩
      have hb3 := hb0.trans (hb2.mono hb0.size)
      have y2 := stay hb2 x2
      go_wp2
      go_ret
      exact ⟨by rw [HR.out]; rfl, hb3⟩

/-- Are a span's days all in the calendar? -/
def wholeB (a b : Int) : Bool := inB a && inB (b - 1)
theorem isWhole_any (a b : Int) (w : World) (hL : Len w) (h1 : -1000000 ≤ b) (h2 : b ≤ 1000000) : Calls Tryd.prog 27 #[.agg #[.int .i64 a, .int .i64 b]] w fun e w' => e = .returned (.bool (wholeB a b)) ∧ Below w.heap.size w w' := by
  obtain ⟨W1, hW1⟩ : ∃ W1, W1 = w.alloc (.cells #[.int .i64 a, .int .i64 b] 28) := ⟨_, rfl⟩
  have hb0 : Below w.heap.size w W1 := by rw [hW1]; exact (Below.refl w.heap.size w).alloc (Nat.le_refl _) _
  have x1 : W1.cell? ⟨w.heap.size, 1, none⟩ = some (.int .i64 b) := by rw [hW1, World.cell?_alloc_new]; rfl
  have hL1 := hL.below hb0 (Nat.le_refl _)
  have HI := isDay_any a W1 hL1
  have HJ := isDay_any (b - 1)
  unfold wholeB
  cases hin : inB a with
  | false =>
    rw [hin] at HI
    have HI := Lib.hid HI
    clear hin HJ
    go_enter Tryd.func27, Tryd.ntmps27
    go_wp2_with fail
    rw [← hW1]
    clear hW1
    refine (HI.out).mono ?_
    rintro e w2 ⟨rfl, hb2⟩
    have hb3 := hb0.trans (hb2.mono hb0.size)
    go_wp2
    go_ret
    exact ⟨rfl, hb3⟩
  | true =>
    rw [hin] at HI
    have HI := Lib.hid HI
    generalize inB (b - 1) = r at HJ ⊢
    have HJ := Lib.hid HJ
    clear hin
    go_enter Tryd.func27, Tryd.ntmps27
    go_wp2_with fail
    rw [← hW1]
    clear hW1
    refine (HI.out).mono ?_
    rintro e w2 ⟨rfl, hb2⟩
    have hb3 := hb0.trans (hb2.mono hb0.size)
    have y1 := stay hb2 x1
    have hL2 := hL1.below hb2 (Nat.le_refl _)
    go_wp2_with fail
    refine (HJ.out _ hL2).mono ?_
    rintro e w4 ⟨rfl, hb4⟩
    have hb5 := hb3.trans (hb4.mono hb3.size)
    go_wp2
    go_ret
    exact ⟨rfl, hb5⟩

theorem firstDay_any (y : Int) (h1 : 1900 ≤ y) (h2 : y ≤ 2199) (w : World) (hL : Len w) : Calls Tryd.prog 40 #[.int .i64 y] w fun e w' => e = .returned (.int .i64 (jan y)) ∧ Below w.heap.size w w' := by
  have hd := dim_bd y 1
  have H := of_yes y 1 1 (okB_iff.2 ⟨h1, h2, by omega, by omega, by omega, by omega⟩) w hL
  rw [show num y 1 1 = jan y by unfold num; rw [cum_one]; omega] at H
  have H := Lib.hid H
  generalize jan y = j at *
  go_enter Tryd.func40, Tryd.ntmps40
  go_wp2_with fail
  refine (H.out).mono ?_
  rintro e w2 ⟨rfl, hb2⟩
  go_wp2
  go_ret
  exact ⟨rfl, hb2⟩
theorem lastDay_any (y : Int) (h1 : 1900 ≤ y) (h2 : y ≤ 2199) (w : World) (hL : Len w) : Calls Tryd.prog 39 #[.int .i64 y] w fun e w' => e = .returned (.int .i64 (jan (y + 1) - 1)) ∧ Below w.heap.size w w' := by
  have H := of_yes y 12 31 (okB_iff.2 ⟨h1, h2, by omega, by omega, by omega, by unfold dim lenM; simp⟩) w hL
  rw [show num y 12 31 = jan (y + 1) - 1 by
    have h3 := jan_succ y
    have h4 := cum_end y
    have h5 := cum_succ y 12 (by omega) (by omega)
    rw [show (12 : Int) + 1 = 13 from rfl, show dim y 12 = 31 from rfl] at h5
    unfold num; omega] at H
  have H := Lib.hid H
  generalize jan (y + 1) - 1 = j at *
  go_enter Tryd.func39, Tryd.ntmps39
  go_wp2_with fail
  refine (H.out).mono ?_
  rintro e w2 ⟨rfl, hb2⟩
  go_wp2
  go_ret
  exact ⟨rfl, hb2⟩

end Go.Proofs.YtfmabjfibjnkoaaDoor
