/-
  What is proved: the contracts of Minutes and Days of a pattern, and of the statements' great. Conditions: the free days lie in memory as the contract says.
-/
import Derived.Test.YtbgilplaefdhbaaDoorDkG
namespace Go.Proofs.YtbgilplaefdhbaaDoor
open Go Go.RowKit Go.Proofs Go.Shelf
set_option linter.unusedVariables false

set_option maxHeartbeats 1000000 in
set_option maxRecDepth 100000 in
theorem Minutes_any (q : Nat → Int) (F : List Int) (p : Option Addr) (c : Nat) (a b : Int) (w : World) (h : DaysIn w p F) (hcap : F.length ≤ c) :
    Calls Tryd.prog 14 #[.agg #[.int .i64 (q 0), .int .i64 (q 1), .int .i64 (q 2), .int .i64 (q 3), .int .i64 (q 4), .int .i64 (q 5), .int .i64 (q 6), .slice p F.length c], .agg #[.int .i64 a, .int .i64 b]] w fun e w' => e = .returned (.int .i64 (minsV q F a b)) ∧ Below w.heap.size w w' := by
  obtain ⟨W3, hW3⟩ : ∃ W3, W3 = ((w.alloc (.cells #[.int .i64 (q 0), .int .i64 (q 1), .int .i64 (q 2), .int .i64 (q 3), .int .i64 (q 4), .int .i64 (q 5), .int .i64 (q 6), .slice p F.length c] 41)).alloc (.cells #[.int .i64 a, .int .i64 b] 43)).alloc (.cells #[.int .i64 0] 3) := ⟨_, rfl⟩
  have hb0 : Below w.heap.size w W3 := by rw [hW3]; exact (((Below.refl w.heap.size w).alloc (Nat.le_refl _) _).alloc (by simp) _).alloc (by simp; omega) _
  have hz : ((w.alloc (.cells #[.int .i64 (q 0), .int .i64 (q 1), .int .i64 (q 2), .int .i64 (q 3), .int .i64 (q 4), .int .i64 (q 5), .int .i64 (q 6), .slice p F.length c] 41)).alloc (.cells #[.int .i64 a, .int .i64 b] 43)).heap.size = w.heap.size + 1 + 1 := by simp
  have hc0 : W3.cell? ⟨w.heap.size + 1 + 1, 0, none⟩ = some (.int .i64 0) := by rw [hW3, ← hz, World.cell?_alloc_new]; rfl
  have hf0 : W3.frozen? ⟨w.heap.size + 1 + 1, 0, none⟩ = false := by rw [hW3, ← hz]; exact new_unfrozen _ _ _ _
  have hfar : 0 < F.length → ∀ x, p = some x → x.block ≠ w.heap.size + 1 + 1 := fun h0 x hx => by
    rcases h with hF | ⟨bb, oo, hp, hc⟩
    · rw [hF] at h0; simp at h0
    · rw [hp] at hx
      injection hx with hx
      subst hx
      have := World.block_lt_of_cell? w _ (hc 0 h0)
      show bb ≠ _
      have : bb < w.heap.size := this
      omega
  have HE := Lib.hid (each_any 22 (fun m => m) (w.heap.size + 1 + 1) q F p c a b W3 rfl (fun m h1 h2 => ⟨h1, h2⟩) (enters_of Tryd.func22 (by kernel_rfl) rfl) (Tells.mins _) hc0 hf0 (h.below hb0 (Nat.le_refl _)) hcap hfar)
  obtain ⟨R, hR⟩ : ∃ R, R = minsV q F a b := ⟨_, rfl⟩
  have HR := Lib.hid hR
  rw [← hR]
  clear hR hc0 hf0 hz h hfar hcap
  obtain ⟨n, hnl⟩ : ∃ n, n = F.length := ⟨_, rfl⟩
  rw [← hnl] at hW3 HE ⊢
  clear hnl
  go_enter Tryd.func14, Tryd.ntmps14
  go_wp2_with fail
  rw [← hW3]
  clear hW3
  refine (HE.out).mono ?_
  rintro e w4 ⟨rfl, hc4, hb4⟩
  have hb5 := hb0.trans (hb4.mono (by omega))
  generalize hS : sumD _ _ _ = S at hc4
  have HS : Hid (R = S) := Lib.hid (by rw [HR.out, ← hS]; rfl)
  clear hS HR HE hb4
  go_wp2
  go_ret
  exact ⟨by rw [HS.out]; rfl, hb5⟩

set_option maxHeartbeats 1000000 in
set_option maxRecDepth 100000 in
theorem Days_any (q : Nat → Int) (F : List Int) (p : Option Addr) (c : Nat) (a b : Int) (w : World) (h : DaysIn w p F) (hcap : F.length ≤ c) :
    Calls Tryd.prog 15 #[.agg #[.int .i64 (q 0), .int .i64 (q 1), .int .i64 (q 2), .int .i64 (q 3), .int .i64 (q 4), .int .i64 (q 5), .int .i64 (q 6), .slice p F.length c], .agg #[.int .i64 a, .int .i64 b]] w fun e w' => e = .returned (.int .i64 (daysV q F a b)) ∧ Below w.heap.size w w' := by
  obtain ⟨W3, hW3⟩ : ∃ W3, W3 = ((w.alloc (.cells #[.int .i64 (q 0), .int .i64 (q 1), .int .i64 (q 2), .int .i64 (q 3), .int .i64 (q 4), .int .i64 (q 5), .int .i64 (q 6), .slice p F.length c] 41)).alloc (.cells #[.int .i64 a, .int .i64 b] 43)).alloc (.cells #[.int .i64 0] 3) := ⟨_, rfl⟩
  have hb0 : Below w.heap.size w W3 := by rw [hW3]; exact (((Below.refl w.heap.size w).alloc (Nat.le_refl _) _).alloc (by simp) _).alloc (by simp; omega) _
  have hz : ((w.alloc (.cells #[.int .i64 (q 0), .int .i64 (q 1), .int .i64 (q 2), .int .i64 (q 3), .int .i64 (q 4), .int .i64 (q 5), .int .i64 (q 6), .slice p F.length c] 41)).alloc (.cells #[.int .i64 a, .int .i64 b] 43)).heap.size = w.heap.size + 1 + 1 := by simp
  have hc0 : W3.cell? ⟨w.heap.size + 1 + 1, 0, none⟩ = some (.int .i64 0) := by rw [hW3, ← hz, World.cell?_alloc_new]; rfl
  have hf0 : W3.frozen? ⟨w.heap.size + 1 + 1, 0, none⟩ = false := by rw [hW3, ← hz]; exact new_unfrozen _ _ _ _
  have hfar : 0 < F.length → ∀ x, p = some x → x.block ≠ w.heap.size + 1 + 1 := fun h0 x hx => by
    rcases h with hF | ⟨bb, oo, hp, hc⟩
    · rw [hF] at h0; simp at h0
    · rw [hp] at hx
      injection hx with hx
      subst hx
      have := World.block_lt_of_cell? w _ (hc 0 h0)
      show bb ≠ _
      have : bb < w.heap.size := this
      omega
  have HE := Lib.hid (each_any 23 one (w.heap.size + 1 + 1) q F p c a b W3 rfl (fun m h1 h2 => by have := one_bd m; omega) (enters_of Tryd.func23 (by kernel_rfl) rfl) (Tells.days _) hc0 hf0 (h.below hb0 (Nat.le_refl _)) hcap hfar)
  obtain ⟨R, hR⟩ : ∃ R, R = daysV q F a b := ⟨_, rfl⟩
  have HR := Lib.hid hR
  rw [← hR]
  clear hR hc0 hf0 hz h hfar hcap
  obtain ⟨n, hnl⟩ : ∃ n, n = F.length := ⟨_, rfl⟩
  rw [← hnl] at hW3 HE ⊢
  clear hnl
  go_enter Tryd.func15, Tryd.ntmps15
  go_wp2_with fail
  rw [← hW3]
  clear hW3
  refine (HE.out).mono ?_
  rintro e w4 ⟨rfl, hc4, hb4⟩
  have hb5 := hb0.trans (hb4.mono (by omega))
  generalize hS : sumD _ _ _ = S at hc4
  have HS : Hid (R = S) := Lib.hid (by rw [HR.out, ← hS]; rfl)
  clear hS HR HE hb4
  go_wp2
  go_ret
  exact ⟨by rw [HS.out]; rfl, hb5⟩

end Go.Proofs.YtbgilplaefdhbaaDoor
