/-
  What is proved: the contracts of the document's Of and Cross. Conditions: the lists' limits; the spans lie in memory.
-/
import Derived.Test.YtefcadngdcgpiaaSpS
namespace Go.Proofs.Ytefcadngdcgpiaa
open Go Go.RowKit Go.Proofs
set_option linter.unusedVariables false

set_option maxHeartbeats 2000000 in
set_option maxRecDepth 100000 in
theorem rOf_any (p : Option Addr) (c : Nat) (A : List Sp) (w : World) (hA : A.length ≤ 2000) (h1 : SpansIn w p A) (hp : p = none → c = 0) :
    Calls Try.prog 13 #[.slice p A.length c] w (TogPost 8000 (hasB A) w) := by
  have HT := Lib.hid (Together_any p c A none 0 [] 1 w hA (by simp) h1 (.inl rfl) hp (fun _ => rfl) (.inl rfl))
  have HQ : Hid (∀ d, wayB 1 (hasB A d) (hasB [] d) = hasB A d) := Lib.hid (fun d => by rw [many_nil]; unfold wayB; simp)
  go_enter Try.func13, Try.ntmps13
  go_wp2_with fail
  refine (HT.out).mono ?_
  rintro e w2 ⟨K, q, c', rfl, h1, h2, h3, h4, h5⟩
  have H2 := Lib.hid h2
  have H1 := Lib.hid h1
  have H4 := Lib.hid h4
  clear h1 h2 h4
  go_wp2
  go_ret
  exact ⟨K, q, c', rfl, H1.out, (fun d => by rw [H2.out d, HQ.out d]), h3, H4.out, h5⟩

theorem cross_list {K : List Sp} {x y : Int} (hK : Canon K) (h : ∀ d, Mem K d ↔ (x ≤ d ∧ d < y)) : K = if y ≤ x then [] else [(x, y)] := by
  by_cases hxy : y ≤ x
  · rw [if_pos hxy]
    exact canon_one hK Canon.nil (fun d => ⟨fun hd => by have := (h d).1 hd; omega, fun hd => absurd hd (Mem_nil d)⟩)
  · rw [if_neg hxy]
    exact canon_one hK ⟨List.pairwise_singleton _ _, fun s hs => by simp at hs; subst hs; show x < y; omega⟩ (fun d => by rw [h d, Mem_one])
theorem hasB_one (x y d : Int) : hasB [(x, y)] d = decide (x ≤ d ∧ d < y) := by
  rw [Bool.eq_iff_iff, hasB_iff, Mem_one, decide_eq_true_iff]

set_option maxHeartbeats 2000000 in
set_option maxRecDepth 100000 in
theorem rCross_any (a b a' b' : Int) (w : World) : Calls Try.prog 27 #[.agg #[.int .i64 a, .int .i64 b], .agg #[.int .i64 a', .int .i64 b']] w fun e w' => e = .returned (.agg #[.int .i64 (crossS (a, b) (a', b')).1, .int .i64 (crossS (a, b) (a', b')).2]) ∧ Below w.heap.size w w' := by
  obtain ⟨W2, hW2⟩ : ∃ W2, W2 = (w.alloc (.cells #[.int .i64 a, .int .i64 b] 39)).alloc (.cells #[.int .i64 a', .int .i64 b'] 39) := ⟨_, rfl⟩
  have hz2 : W2.heap.size = w.heap.size + 1 + 1 := by rw [hW2]; simp
  obtain ⟨W3, hW3⟩ : ∃ W3, W3 = W2.alloc (.cells #[.int .i64 0, .int .i64 0] 39) := ⟨_, rfl⟩
  have hz3 : W3.heap.size = w.heap.size + 1 + 1 + 1 := by rw [hW3]; simp [hz2]
  obtain ⟨W4, hW4⟩ : ∃ W4, W4 = W3.alloc (.cells (spC [(a, b)]).toArray 39) := ⟨_, rfl⟩
  have hz4 : W4.heap.size = w.heap.size + 1 + 1 + 1 + 1 := by rw [hW4]; simp [hz3]
  obtain ⟨W5, hW5⟩ : ∃ W5, W5 = W4.alloc (.cells (spC [(a', b')]).toArray 39) := ⟨_, rfl⟩
  have hz5 : W5.heap.size = w.heap.size + 1 + 1 + 1 + 1 + 1 := by rw [hW5]; simp [hz4]
  have h23 : Below W2.heap.size W2 W3 := by rw [hW3]; exact (Below.refl _ _).alloc (Nat.le_refl _) _
  have h34 : Below W3.heap.size W3 W4 := by rw [hW4]; exact (Below.refl _ _).alloc (Nat.le_refl _) _
  have h45 : Below W4.heap.size W4 W5 := by rw [hW5]; exact (Below.refl _ _).alloc (Nat.le_refl _) _
  have h02 : Below w.heap.size w W2 := by rw [hW2]; exact ((Below.refl w.heap.size w).alloc (Nat.le_refl _) _).alloc (by simp) _
  have h35 := h34.trans (h45.mono (by omega))
  have hb0 := h02.trans ((h23.trans (h35.mono (by omega))).mono (by omega))
  have q3 : W5.cell? ⟨w.heap.size + 1 + 1, 0, none⟩ = some (.int .i64 0) := (h35.cell (p := ⟨w.heap.size + 1 + 1, 0, none⟩) (by show w.heap.size + 1 + 1 < _; omega)).trans (by rw [hW3, ← hz2, World.cell?_alloc_new]; rfl)
  have q4 : W5.cell? ⟨w.heap.size + 1 + 1, 1, none⟩ = some (.int .i64 0) := (h35.cell (p := ⟨w.heap.size + 1 + 1, 1, none⟩) (by show w.heap.size + 1 + 1 < _; omega)).trans (by rw [hW3, ← hz2, World.cell?_alloc_new]; rfl)
  have f3 : W5.frozen? ⟨w.heap.size + 1 + 1, 0, none⟩ = false := (h35.frozen (p := ⟨w.heap.size + 1 + 1, 0, none⟩) (by show w.heap.size + 1 + 1 < _; omega)).trans (by rw [hW3, ← hz2]; exact new_unfrozen _ _ _ _)
  have f4 : W5.frozen? ⟨w.heap.size + 1 + 1, 1, none⟩ = false := (h35.frozen (p := ⟨w.heap.size + 1 + 1, 1, none⟩) (by show w.heap.size + 1 + 1 < _; omega)).trans (by rw [hW3, ← hz2]; exact new_unfrozen _ _ _ _)
  have S3 : SpansIn W5 (some ⟨w.heap.size + 1 + 1 + 1, 0, none⟩) [(a, b)] := SpansIn.below (w := W4) (by rw [hW4, ← hz3]; exact spans_new _ _ _) h45 (Nat.le_refl _)
  have S4 : SpansIn W5 (some ⟨w.heap.size + 1 + 1 + 1 + 1, 0, none⟩) [(a', b')] := by rw [hW5, ← hz4]; exact spans_new _ _ _
  have HT := Lib.hid (Together_any (some ⟨w.heap.size + 1 + 1 + 1, 0, none⟩) 1 [(a, b)] (some ⟨w.heap.size + 1 + 1 + 1 + 1, 0, none⟩) 1 [(a', b')] 2 W5 (by simp) (by simp) S3 S4 (fun h => by cases h) (fun h => by cases h) (.inr (.inl rfl)))
  have hE : W5 = ((((w.alloc (.cells #[.int .i64 a, .int .i64 b] 39)).alloc (.cells #[.int .i64 a', .int .i64 b'] 39)).alloc (.cells #[.int .i64 0, .int .i64 0] 39)).alloc (.cells #[.int .i64 a, .int .i64 b] 39)).alloc (.cells #[.int .i64 a', .int .i64 b'] 39) := by rw [hW5, hW4, hW3, hW2]; rfl
  clear hW2 hW3 hW4 hW5 hz2 hz3 hz4 h23 h34 h45 h02 h35 S3 S4
  have hPE : ∀ d, wayB 2 (hasB [(a, b)] d) (hasB [(a', b')] d) = true ↔ (max a a' ≤ d ∧ d < min b b') := fun d => by
    rw [hasB_one, hasB_one]; unfold wayB; simp; omega
  have HPE := Lib.hid hPE
  clear hPE
  by_cases hm : min b b' ≤ max a a'
  · have hc : crossS (a, b) (a', b') = (0, 0) := by unfold crossS; rw [if_pos hm]
    rw [hc]
    clear hc
    go_enter Try.func27, Try.ntmps27
    go_wp2_with fail
    rw [← hE]
    clear hE
    refine (HT.out).mono ?_
    rintro e w2 ⟨K, q, c', rfl, h1, h2, h3, h4, hb2⟩
    have hK := cross_list h1 (x := max a a') (y := min b b') (fun d => by rw [h2 d]; exact HPE.out d)
    have r3 := (hb2.cell (p := ⟨w.heap.size + 1 + 1, 0, none⟩) (by show w.heap.size + 1 + 1 < _; omega)).trans q3
    have r4 := (hb2.cell (p := ⟨w.heap.size + 1 + 1, 1, none⟩) (by show w.heap.size + 1 + 1 < _; omega)).trans q4
    have g3 := (hb2.frozen (p := ⟨w.heap.size + 1 + 1, 0, none⟩) (by show w.heap.size + 1 + 1 < _; omega)).trans f3
    have g4 := (hb2.frozen (p := ⟨w.heap.size + 1 + 1, 1, none⟩) (by show w.heap.size + 1 + 1 < _; omega)).trans f4
    have hb3 := hb0.trans (hb2.mono (by omega))
    clear q3 q4 f3 f4 hb0 hb2 h1 h2 h3 HT HPE
    rw [if_pos hm] at hK
    subst hK
    clear hm h4
    simp only [List.length_nil]
    have hb4 := (hb3.setCell (p := ⟨w.heap.size + 1 + 1, 0, none⟩) (by show w.heap.size ≤ w.heap.size + 1 + 1; omega) (.int .i64 0)).setCell (p := ⟨w.heap.size + 1 + 1, 1, none⟩) (by show w.heap.size ≤ w.heap.size + 1 + 1; omega) (.int .i64 0)
    have t1 : ((w2.setCell ⟨w.heap.size + 1 + 1, 0, none⟩ (.int .i64 0)).setCell ⟨w.heap.size + 1 + 1, 1, none⟩ (.int .i64 0)).cell? ⟨w.heap.size + 1 + 1, 0, none⟩ = some (.int .i64 0) := by
      rw [World.cell?_setCell_other _ _ _ _ (fun e => by injection e with _ e; omega)]
      exact World.cell?_setCell_same _ _ _ r3
    have t2 : ((w2.setCell ⟨w.heap.size + 1 + 1, 0, none⟩ (.int .i64 0)).setCell ⟨w.heap.size + 1 + 1, 1, none⟩ (.int .i64 0)).cell? ⟨w.heap.size + 1 + 1, 1, none⟩ = some (.int .i64 0) :=
      World.cell?_setCell_same _ _ _ ((World.cell?_setCell_other _ _ _ _ (fun e => by injection e with _ e; omega)).trans r4)
    go_wp2
    exact bodyPost_ret (v := .agg #[.int .i64 0, .int .i64 0]) (by simp [results, Try.results27, go_sem, t1, t2]) rfl ⟨rfl, hb4⟩
  · have hc : crossS (a, b) (a', b') = (max a a', min b b') := by unfold crossS; rw [if_neg hm]
    rw [hc]
    clear hc
    dsimp only
    generalize max a a' = x at *
    generalize min b b' = y at *
    go_enter Try.func27, Try.ntmps27
    go_wp2_with fail
    rw [← hE]
    clear hE
    refine (HT.out).mono ?_
    rintro e w2 ⟨K, q, c', rfl, h1, h2, h3, h4, hb2⟩
    have hK := cross_list h1 (x := x) (y := y) (fun d => by rw [h2 d]; exact HPE.out d)
    have r3 := (hb2.cell (p := ⟨w.heap.size + 1 + 1, 0, none⟩) (by show w.heap.size + 1 + 1 < _; omega)).trans q3
    have r4 := (hb2.cell (p := ⟨w.heap.size + 1 + 1, 1, none⟩) (by show w.heap.size + 1 + 1 < _; omega)).trans q4
    have g3 := (hb2.frozen (p := ⟨w.heap.size + 1 + 1, 0, none⟩) (by show w.heap.size + 1 + 1 < _; omega)).trans f3
    have g4 := (hb2.frozen (p := ⟨w.heap.size + 1 + 1, 1, none⟩) (by show w.heap.size + 1 + 1 < _; omega)).trans f4
    have hb3 := hb0.trans (hb2.mono (by omega))
    clear q3 q4 f3 f4 hb0 hb2 h1 h2 h3 HT HPE
    rw [if_neg (by omega)] at hK
    subst hK
    rcases h4 with h4 | ⟨bq, oq, rfl, hcq⟩
    · cases h4
    obtain ⟨c1, c2⟩ := hcq 0 (by simp)
    clear hm hcq
    simp only [List.length_singleton, Nat.zero_mul, Nat.add_zero, List.getD_cons_zero] at c1 c2 ⊢
    have hb4 := (hb3.setCell (p := ⟨w.heap.size + 1 + 1, 0, none⟩) (by show w.heap.size ≤ w.heap.size + 1 + 1; omega) (.int .i64 x)).setCell (p := ⟨w.heap.size + 1 + 1, 1, none⟩) (by show w.heap.size ≤ w.heap.size + 1 + 1; omega) (.int .i64 y)
    have t1 : ((w2.setCell ⟨w.heap.size + 1 + 1, 0, none⟩ (.int .i64 x)).setCell ⟨w.heap.size + 1 + 1, 1, none⟩ (.int .i64 y)).cell? ⟨w.heap.size + 1 + 1, 0, none⟩ = some (.int .i64 x) := by
      rw [World.cell?_setCell_other _ _ _ _ (fun e => by injection e with _ e; omega)]
      exact World.cell?_setCell_same _ _ _ r3
    have t2 : ((w2.setCell ⟨w.heap.size + 1 + 1, 0, none⟩ (.int .i64 x)).setCell ⟨w.heap.size + 1 + 1, 1, none⟩ (.int .i64 y)).cell? ⟨w.heap.size + 1 + 1, 1, none⟩ = some (.int .i64 y) :=
      World.cell?_setCell_same _ _ _ ((World.cell?_setCell_other _ _ _ _ (fun e => by injection e with _ e; omega)).trans r4)
    go_wp2
    exact bodyPost_ret (v := .agg #[.int .i64 x, .int .i64 y]) (by simp [results, Try.results27, go_sem, t1, t2]) rfl ⟨rfl, hb4⟩

end Go.Proofs.Ytefcadngdcgpiaa
