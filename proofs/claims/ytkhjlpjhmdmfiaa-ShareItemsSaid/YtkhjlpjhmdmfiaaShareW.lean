/-
  What is proved: the document's examples of share come out as it says ('awake' of the statements of share returns true). Conditions: none.
-/
import Derived.Test.YtkhjlpjhmdmfiaaShareF
namespace Go.Proofs.Ytkhjlpjhmdmfiaa
open Go Go.RowKit Go.Proofs

theorem alike_first {r f : Nat → Nat} {n : Nat} (hn : 0 < n) (hr : ∀ i j, i < n → j < n → r i = r j) (h : Good r f 0 n) : f 0 = 0 := by
  obtain ⟨i, -, hi, hf⟩ := h.2.2 0 (by omega) hn
  by_cases e : i = 0
  · rw [e] at hf; exact hf
  · have hb := h.1 0 i (by omega) (by omega) hi
    have e1 := hr (f 0) (f i) (h.2.1 0 (by omega) hn).2 (h.2.1 i (by omega) hi).2
    unfold bef at hb
    omega
theorem split_awake (b cp : Nat) (w : World) (hc : ∀ j, j < 3 → w.cell? ⟨b, j, none⟩ = some (.int .i64 1)) : Calls Try.prog 11 #[.int .i64 100, .slice (some ⟨b, 0, none⟩) 3 cp] w fun e w' => ∃ g, e = .returned (.tuple #[.slice (some ⟨g, 0, none⟩) 3 3, .int .i64 0]) ∧ w.heap.size ≤ g ∧ g < w'.heap.size ∧ Wts w' (some ⟨g, 0, none⟩) 3 (fun j => if j = 0 then 34 else 33) ∧ Below w.heap.size w w' := by
  refine (Split_ok 100 _ 3 cp (fun _ => 1) w (.inr ⟨b, 0, rfl, fun j hj => by rw [Nat.zero_add]; exact hc j hj⟩) (by decide +kernel)).mono ?_
  rintro e w' ⟨g, f, rfl, h1, h2, h3, h4, h5⟩
  refine ⟨g, rfl, h1, h2, (Wts.of_row h4).congr (fun j hj => ?_), h5⟩
  have hf := alike_first (by omega) (fun i j _ _ => rfl) h3
  rw [show leftN (100 : Int).natAbs (sumN (natW fun _ => 1) 3) (natW fun _ => 1) 3 = 1 by decide +kernel]
  simp only [bump, hf]
  rw [show sg 100 = 1 by decide +kernel]
  have hw : whN (100 : Int).natAbs (sumN (natW fun _ => 1) 3) (natW fun _ => 1) j = 33 := by show 100 * 1 / 3 = 33; rfl
  rw [hw]
  split <;> rfl
theorem upTo_awake (w : World) : Calls Try.prog 14 #[.int .i64 5, .int .i64 1, .int .i64 2] w fun e w' => e = .returned (.tuple #[.int .i64 3, .int .i64 0]) ∧ ∃ n, w' = w.drewN n := by
  have h := UpTo_any 5 1 2 w
  rwa [show upR 5 1 2 = 3 by decide +kernel, show upE 5 1 2 = 0 by decide +kernel] at h

set_option maxRecDepth 100000 in
theorem awake_any (w : World) : Calls Try.prog 10 #[] w fun e w' => e = .returned (.bool true) ∧ Below w.heap.size w w' := by
  go_enter Try.func10, Try.ntmps10
  go_wp2_with fail
  refine (split_awake w.heap.size 3 _ (fun j hj => ?_)).mono ?_
  · rw [World.cell?_alloc_new]
    match j, hj with
    | 0, _ => rfl
    | 1, _ => rfl
    | 2, _ => rfl
  rintro e w1 ⟨g, rfl, h1, h2, h3, h4⟩
  have hB1 : Below w.heap.size w w1 := ((Below.refl w.heap.size w).alloc (Nat.le_refl _) _).trans (h4.mono (by simp))
  have H3 := Lib.hid h3
  clear h1 h2 h3 h4
  go_wp2_with fail
  refine (upTo_awake _).mono ?_
  rintro e w2 ⟨rfl, m, rfl⟩
  go_wp2_with fail
  refine (same_yes _ _ 3 3 3 (fun j => if j = 0 then 34 else 33) _ (by omega) ?_ ?_).mono ?_
  · exact (H3.out.drewN m).below (Nat.le_refl _) ((Below.refl _ _).alloc (Nat.le_refl _) _)
  · refine .inr ⟨_, 0, rfl, fun j hj => ?_⟩
    rw [Nat.zero_add]
    refine (World.cell?_alloc_new (w1.drewN m) _ _ _).trans ?_
    match j, hj with
    | 0, _ => rfl
    | 1, _ => rfl
    | 2, _ => rfl
  rintro e w3 ⟨rfl, m', rfl⟩
  go_wp2
  go_ret
  exact ⟨rfl, below_drewN ((below_drewN hB1 m).alloc (by exact hB1.size) _) m'⟩

end Go.Proofs.Ytkhjlpjhmdmfiaa
