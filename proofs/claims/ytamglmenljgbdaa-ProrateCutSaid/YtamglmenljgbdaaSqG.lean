/-
  What is proved: the contracts of Union, Meet and Minus of sets of days. Conditions: at most 10000 spans each, of 64 bits, which lie in memory as the contract says.
-/
import Derived.Test.YtamglmenljgbdaaSqF
namespace Go.Proofs.Ytamglmenljgbdaa.Sp
open Go Go.RowKit Go.Proofs

set_option maxHeartbeats 1000000 in
set_option maxRecDepth 100000 in
theorem Union_any (v1 v2 : Value) (N M : Nat) (P Q : Int → Bool) (w : World) (hN : N ≤ 10000) (hM : M ≤ 10000) (h1 : IsSet w N P v1) (h2 : IsSet w M Q v2) :
    Calls Try.prog 27 #[v1, v2] w (SetPost (2 * N + 2 * M) (fun d => P d || Q d) w) := by
  obtain ⟨K1, p1, c1, rfl, k1, m1, a64, l1, -, s1⟩ := h1
  obtain ⟨K2, p2, c2, rfl, k2, m2, b64, l2, -, s2⟩ := h2
  obtain ⟨W3, hW3⟩ : ∃ W3, W3 = ((w.alloc (.cells #[.slice p1 K1.length c1] 58)).alloc (.cells #[.slice p2 K2.length c2] 58)).alloc (.cells #[.slice none 0 0] 58) := ⟨_, rfl⟩
  have hb0 : Below w.heap.size w W3 := by rw [hW3]; exact (((Below.refl w.heap.size w).alloc (Nat.le_refl _) _).alloc (by simp) _).alloc (by simp; omega) _
  have hz0 : W3.heap.size = w.heap.size + 3 := by rw [hW3]; simp
  have hzb : ((w.alloc (.cells #[.slice p1 K1.length c1] 58)).alloc (.cells #[.slice p2 K2.length c2] 58)).heap.size = w.heap.size + 1 + 1 := by simp
  have q3 : W3.cell? ⟨w.heap.size + 1 + 1, 0, none⟩ = some (.slice none 0 0) := by
    rw [hW3, ← hzb, World.cell?_alloc_new]; rfl
  have f3 : W3.frozen? ⟨w.heap.size + 1 + 1, 0, none⟩ = false := by
    rw [hW3, ← hzb]; exact new_unfrozen _ _ _ _
  have HT := Lib.hid (together_any 50 (fun a b => a || b) p1 p2 c1 c2 K1 K2 W3 (by omega) (by omega) a64 b64 (s1.below hb0 (Nat.le_refl _)) (s2.below hb0 (Nat.le_refl _)) rfl (enters_of Try.func50 (by kernel_rfl) rfl) unionKeep_any)
  have HM : Hid (∀ d, (hasB K1 d || hasB K2 d) = (P d || Q d)) := Lib.hid (fun d => by rw [hasB_of m1, hasB_of m2])
  clear hzb a64 b64 s1 s2 k1 k2 m1 m2
  go_enter Try.func27, Try.ntmps27
  go_wp2_with fail
  rw [← hW3]
  clear hW3
  refine (HT.out).mono ?_
  rintro e w2 ⟨K, q, cq, rfl, hK, hM, h64, hKl, hcq, hqb, hsp, hb2⟩
  have x2 := (hb2.cell (p := ⟨w.heap.size + 1 + 1, 0, none⟩) (by show w.heap.size + 1 + 1 < _; omega)).trans q3
  have f2 := (hb2.frozen (p := ⟨w.heap.size + 1 + 1, 0, none⟩) (by show w.heap.size + 1 + 1 < _; omega)).trans f3
  have hb3 := (hb0.trans (hb2.mono (by omega))).setCell (p := ⟨w.heap.size + 1 + 1, 0, none⟩) (by show w.heap.size ≤ w.heap.size + 1 + 1; omega) (.slice q K.length cq)
  have hsp3 := hsp.far ⟨w.heap.size + 1 + 1, 0, none⟩ (.slice q K.length cq) (fun a ha => by have := (hqb a ha).1; show w.heap.size + 1 + 1 ≠ a.block; omega)
  have x3 : (w2.setCell ⟨w.heap.size + 1 + 1, 0, none⟩ (.slice q K.length cq)).cell? ⟨w.heap.size + 1 + 1, 0, none⟩ = some (.slice q K.length cq) := World.cell?_setCell_same _ _ _ x2
  have HR : Hid (IsSet (w2.setCell ⟨w.heap.size + 1 + 1, 0, none⟩ (.slice q K.length cq)) (2 * N + 2 * M) (fun d => P d || Q d) (.agg #[.slice q K.length cq])) := Lib.hid ⟨K, q, cq, rfl, hK, fun d => by rw [hM d]; exact Bool.eq_iff_iff.1 (HM.out d), h64, by omega, (fun a ha => (hqb a ha).2), hsp3⟩
  have HF : Hid (FreshV w.heap.size (.agg #[.slice q K.length cq])) := Lib.hid (.mk (fun a ha => by have := (hqb a ha).1; omega))
  clear hK hM h64 hKl hcq hqb hsp hb2 HT hsp3 hb0 HM
  go_wp2
  exact bodyPost_ret (v := .agg #[.slice q K.length cq]) (by simp [results, Try.results27, go_sem, x3]) rfl ⟨_, rfl, HR.out, hb3, HF.out⟩

set_option maxHeartbeats 1000000 in
set_option maxRecDepth 100000 in
theorem Meet_any (v1 v2 : Value) (N M : Nat) (P Q : Int → Bool) (w : World) (hN : N ≤ 10000) (hM : M ≤ 10000) (h1 : IsSet w N P v1) (h2 : IsSet w M Q v2) :
    Calls Try.prog 46 #[v1, v2] w (SetPost (2 * N + 2 * M) (fun d => P d && Q d) w) := by
  obtain ⟨K1, p1, c1, rfl, k1, m1, a64, l1, -, s1⟩ := h1
  obtain ⟨K2, p2, c2, rfl, k2, m2, b64, l2, -, s2⟩ := h2
  obtain ⟨W3, hW3⟩ : ∃ W3, W3 = ((w.alloc (.cells #[.slice p1 K1.length c1] 58)).alloc (.cells #[.slice p2 K2.length c2] 58)).alloc (.cells #[.slice none 0 0] 58) := ⟨_, rfl⟩
  have hb0 : Below w.heap.size w W3 := by rw [hW3]; exact (((Below.refl w.heap.size w).alloc (Nat.le_refl _) _).alloc (by simp) _).alloc (by simp; omega) _
  have hz0 : W3.heap.size = w.heap.size + 3 := by rw [hW3]; simp
  have hzb : ((w.alloc (.cells #[.slice p1 K1.length c1] 58)).alloc (.cells #[.slice p2 K2.length c2] 58)).heap.size = w.heap.size + 1 + 1 := by simp
  have q3 : W3.cell? ⟨w.heap.size + 1 + 1, 0, none⟩ = some (.slice none 0 0) := by
    rw [hW3, ← hzb, World.cell?_alloc_new]; rfl
  have f3 : W3.frozen? ⟨w.heap.size + 1 + 1, 0, none⟩ = false := by
    rw [hW3, ← hzb]; exact new_unfrozen _ _ _ _
  have HT := Lib.hid (together_any 67 (fun a b => a && b) p1 p2 c1 c2 K1 K2 W3 (by omega) (by omega) a64 b64 (s1.below hb0 (Nat.le_refl _)) (s2.below hb0 (Nat.le_refl _)) rfl (enters_of Try.func67 (by kernel_rfl) rfl) meetKeep_any)
  have HM : Hid (∀ d, (hasB K1 d && hasB K2 d) = (P d && Q d)) := Lib.hid (fun d => by rw [hasB_of m1, hasB_of m2])
  clear hzb a64 b64 s1 s2 k1 k2 m1 m2
  go_enter Try.func46, Try.ntmps46
  go_wp2_with fail
  rw [← hW3]
  clear hW3
  refine (HT.out).mono ?_
  rintro e w2 ⟨K, q, cq, rfl, hK, hM, h64, hKl, hcq, hqb, hsp, hb2⟩
  have x2 := (hb2.cell (p := ⟨w.heap.size + 1 + 1, 0, none⟩) (by show w.heap.size + 1 + 1 < _; omega)).trans q3
  have f2 := (hb2.frozen (p := ⟨w.heap.size + 1 + 1, 0, none⟩) (by show w.heap.size + 1 + 1 < _; omega)).trans f3
  have hb3 := (hb0.trans (hb2.mono (by omega))).setCell (p := ⟨w.heap.size + 1 + 1, 0, none⟩) (by show w.heap.size ≤ w.heap.size + 1 + 1; omega) (.slice q K.length cq)
  have hsp3 := hsp.far ⟨w.heap.size + 1 + 1, 0, none⟩ (.slice q K.length cq) (fun a ha => by have := (hqb a ha).1; show w.heap.size + 1 + 1 ≠ a.block; omega)
  have x3 : (w2.setCell ⟨w.heap.size + 1 + 1, 0, none⟩ (.slice q K.length cq)).cell? ⟨w.heap.size + 1 + 1, 0, none⟩ = some (.slice q K.length cq) := World.cell?_setCell_same _ _ _ x2
  have HR : Hid (IsSet (w2.setCell ⟨w.heap.size + 1 + 1, 0, none⟩ (.slice q K.length cq)) (2 * N + 2 * M) (fun d => P d && Q d) (.agg #[.slice q K.length cq])) := Lib.hid ⟨K, q, cq, rfl, hK, fun d => by rw [hM d]; exact Bool.eq_iff_iff.1 (HM.out d), h64, by omega, (fun a ha => (hqb a ha).2), hsp3⟩
  have HF : Hid (FreshV w.heap.size (.agg #[.slice q K.length cq])) := Lib.hid (.mk (fun a ha => by have := (hqb a ha).1; omega))
  clear hK hM h64 hKl hcq hqb hsp hb2 HT hsp3 hb0 HM
  go_wp2
  exact bodyPost_ret (v := .agg #[.slice q K.length cq]) (by simp [results, Try.results46, go_sem, x3]) rfl ⟨_, rfl, HR.out, hb3, HF.out⟩

set_option maxHeartbeats 1000000 in
set_option maxRecDepth 100000 in
theorem Minus_any (v1 v2 : Value) (N M : Nat) (P Q : Int → Bool) (w : World) (hN : N ≤ 10000) (hM : M ≤ 10000) (h1 : IsSet w N P v1) (h2 : IsSet w M Q v2) :
    Calls Try.prog 45 #[v1, v2] w (SetPost (2 * N + 2 * M) (fun d => P d && !Q d) w) := by
  obtain ⟨K1, p1, c1, rfl, k1, m1, a64, l1, -, s1⟩ := h1
  obtain ⟨K2, p2, c2, rfl, k2, m2, b64, l2, -, s2⟩ := h2
  obtain ⟨W3, hW3⟩ : ∃ W3, W3 = ((w.alloc (.cells #[.slice p1 K1.length c1] 58)).alloc (.cells #[.slice p2 K2.length c2] 58)).alloc (.cells #[.slice none 0 0] 58) := ⟨_, rfl⟩
  have hb0 : Below w.heap.size w W3 := by rw [hW3]; exact (((Below.refl w.heap.size w).alloc (Nat.le_refl _) _).alloc (by simp) _).alloc (by simp; omega) _
  have hz0 : W3.heap.size = w.heap.size + 3 := by rw [hW3]; simp
  have hzb : ((w.alloc (.cells #[.slice p1 K1.length c1] 58)).alloc (.cells #[.slice p2 K2.length c2] 58)).heap.size = w.heap.size + 1 + 1 := by simp
  have q3 : W3.cell? ⟨w.heap.size + 1 + 1, 0, none⟩ = some (.slice none 0 0) := by
    rw [hW3, ← hzb, World.cell?_alloc_new]; rfl
  have f3 : W3.frozen? ⟨w.heap.size + 1 + 1, 0, none⟩ = false := by
    rw [hW3, ← hzb]; exact new_unfrozen _ _ _ _
  have HT := Lib.hid (together_any 66 (fun a b => a && !b) p1 p2 c1 c2 K1 K2 W3 (by omega) (by omega) a64 b64 (s1.below hb0 (Nat.le_refl _)) (s2.below hb0 (Nat.le_refl _)) rfl (enters_of Try.func66 (by kernel_rfl) rfl) minusKeep_any)
  have HM : Hid (∀ d, (hasB K1 d && !hasB K2 d) = (P d && !Q d)) := Lib.hid (fun d => by rw [hasB_of m1, hasB_of m2])
  clear hzb a64 b64 s1 s2 k1 k2 m1 m2
  go_enter Try.func45, Try.ntmps45
  go_wp2_with fail
  rw [← hW3]
  clear hW3
  refine (HT.out).mono ?_
  rintro e w2 ⟨K, q, cq, rfl, hK, hM, h64, hKl, hcq, hqb, hsp, hb2⟩
  have x2 := (hb2.cell (p := ⟨w.heap.size + 1 + 1, 0, none⟩) (by show w.heap.size + 1 + 1 < _; omega)).trans q3
  have f2 := (hb2.frozen (p := ⟨w.heap.size + 1 + 1, 0, none⟩) (by show w.heap.size + 1 + 1 < _; omega)).trans f3
  have hb3 := (hb0.trans (hb2.mono (by omega))).setCell (p := ⟨w.heap.size + 1 + 1, 0, none⟩) (by show w.heap.size ≤ w.heap.size + 1 + 1; omega) (.slice q K.length cq)
  have hsp3 := hsp.far ⟨w.heap.size + 1 + 1, 0, none⟩ (.slice q K.length cq) (fun a ha => by have := (hqb a ha).1; show w.heap.size + 1 + 1 ≠ a.block; omega)
  have x3 : (w2.setCell ⟨w.heap.size + 1 + 1, 0, none⟩ (.slice q K.length cq)).cell? ⟨w.heap.size + 1 + 1, 0, none⟩ = some (.slice q K.length cq) := World.cell?_setCell_same _ _ _ x2
  have HR : Hid (IsSet (w2.setCell ⟨w.heap.size + 1 + 1, 0, none⟩ (.slice q K.length cq)) (2 * N + 2 * M) (fun d => P d && !Q d) (.agg #[.slice q K.length cq])) := Lib.hid ⟨K, q, cq, rfl, hK, fun d => by rw [hM d]; exact Bool.eq_iff_iff.1 (HM.out d), h64, by omega, (fun a ha => (hqb a ha).2), hsp3⟩
  have HF : Hid (FreshV w.heap.size (.agg #[.slice q K.length cq])) := Lib.hid (.mk (fun a ha => by have := (hqb a ha).1; omega))
  clear hK hM h64 hKl hcq hqb hsp hb2 HT hsp3 hb0 HM
  go_wp2
  exact bodyPost_ret (v := .agg #[.slice q K.length cq]) (by simp [results, Try.results45, go_sem, x3]) rfl ⟨_, rfl, HR.out, hb3, HF.out⟩

end Go.Proofs.Ytamglmenljgbdaa.Sp
