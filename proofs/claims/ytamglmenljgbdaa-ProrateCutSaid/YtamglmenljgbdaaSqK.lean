/-
  What is proved: the contracts of Days of a set, and of the document's own Days. Conditions: at most 100000 spans of 64 bits, which lie in memory as the contract says.
-/
import Derived.Test.YtamglmenljgbdaaSqH
namespace Go.Proofs.Ytamglmenljgbdaa.Sp
open Go Go.RowKit Go.Proofs Go.Shelf

theorem cut62_add {a b : Int} (ha : 0 ≤ a) (hb : 0 ≤ b) : min (cut62 a) (4611686018427387904 - cut62 b) + cut62 b = cut62 (a + b) := by
  unfold cut62
  split <;> split <;> split <;> omega
theorem cut62_bd {a : Int} (ha : 0 ≤ a) : 0 ≤ cut62 a ∧ cut62 a ≤ 4611686018427387904 := by unfold cut62; split <;> omega
theorem dsum_take (K : List Sp) {k : Nat} (h : k < K.length) : dsum (K.take (k + 1)) = dsum (K.take k) + lenS (K.getD k (0, 0)) := by
  rw [take_next K (0, 0) h, dsum_snoc]
theorem Length3 (a b : Int) (g : Nat) (va vb : Value) (W0 w : World) (ha : in64 a) (hb : in64 b) (h0 : w.cell? ⟨g, 0, none⟩ = some va) (h1 : w.cell? ⟨g, 1, none⟩ = some vb) (hbl : Below W0.heap.size W0 w) :
    Calls Try.prog 31 #[.agg #[.int .i64 a, .int .i64 b]] w fun e w' => e = .returned (.int .i64 (cut62 (lenS (a, b)))) ∧ w'.cell? ⟨g, 0, none⟩ = some va ∧ w'.cell? ⟨g, 1, none⟩ = some vb ∧ Below W0.heap.size W0 w' :=
  (Length_any a b w ha hb).mono fun _ _ ⟨he, hb2⟩ => ⟨he, (hb2.cell (p := ⟨g, 0, none⟩) (World.block_lt_of_cell? w _ h0)).trans h0, (hb2.cell (p := ⟨g, 1, none⟩) (World.block_lt_of_cell? w _ h1)).trans h1, hbl.trans (hb2.mono hbl.size)⟩

set_option maxHeartbeats 1000000 in
set_option maxRecDepth 100000 in
theorem Days_any (v : Value) (N : Nat) (P : Int → Bool) (w : World) (hN : N ≤ 100000) (h : IsSet w N P v) :
    Calls Try.prog 43 #[v] w fun e w' => (∃ K, Canon K ∧ (∀ d, Mem K d ↔ P d = true) ∧ (∀ s ∈ K, in64 s.1 ∧ in64 s.2) ∧ e = .returned (.int .i64 (cut62 (dsum K)))) ∧ Below w.heap.size w w' := by
  obtain ⟨K, p, c, rfl, k1, m1, a64, l1, hs, s1⟩ := h
  obtain ⟨W0, hW0⟩ : ∃ W0, W0 = w.alloc (.cells #[.slice p K.length c] 58) := ⟨_, rfl⟩
  have hb0 : Below w.heap.size w W0 := by rw [hW0]; exact (Below.refl w.heap.size w).alloc (Nat.le_refl _) _
  have HI := Lib.hid (s1.below hb0 (Nat.le_refl _))
  have H64 := Lib.hid a64
  have HKK : Hid (Canon K ∧ (∀ d, Mem K d ↔ P d = true) ∧ (∀ s ∈ K, in64 s.1 ∧ in64 s.2)) := Lib.hid ⟨k1, m1, a64⟩
  have hn : K.length ≤ 100000 := by omega
  clear a64 k1 m1 s1 l1 hs
  obtain ⟨n, hnl⟩ : ∃ n, n = K.length := ⟨_, rfl⟩
  rw [← hnl] at hn hW0 ⊢
  have HN := Lib.hid hnl
  clear hnl
  go_enter Try.func43, Try.ntmps43
  go_wp2
  rw [← hW0]
  clear hW0
  go_loopw [3, 5, 9] (fun sv _ iv wr => ∃ (k : Nat) (x : Int), k ≤ n ∧ iv = .int .i64 k ∧ sv = .int .i64 x ∧ Hid (x = cut62 (dsum (K.take k))) ∧ Below W0.heap.size W0 wr) (fun _ _ iv _ => n - (RowKit.intOf iv).toNat)
  case atStart => exact ⟨0, 0, by omega, rfl, rfl, Lib.hid rfl, Below.refl _ _⟩
  case round =>
    obtain ⟨k, s, hk, rfl, rfl, HS, hb⟩ := hrel
    by_cases hlt : k < n
    · rcases HI.out with h | ⟨b, o, rfl, hc⟩
      · have := HN.out; rw [h] at this; simp at this; omega
      have hkl : k < K.length := by rw [← HN.out]; exact hlt
      obtain ⟨x1, x2⟩ := hc k hkl
      have a1 := (hb.cell (p := ⟨b, o + k * 2, none⟩) (World.block_lt_of_cell? W0 _ x1)).trans x1
      have a2 := (hb.cell (p := ⟨b, o + k * 2 + 1, none⟩) (World.block_lt_of_cell? W0 _ x2)).trans x2
      have i1 : (k : Int) < (n : Int) := by omega
      have h6 := H64.out (K.getD k (0, 0)) (by rw [getD_at K _ hkl]; exact List.getElem_mem _)
      have hd := dsum_take K hkl
      have hnn := dsum_nn (K.take k)
      have hll := lenS_nn (K.getD k (0, 0))
      have hb1 := cut62_bd hnn
      rw [← HS.out] at hb1
      have hb2 := cut62_bd hll
      have HX : Hid (min s (4611686018427387904 - cut62 (lenS (K.getD k (0, 0)))) + cut62 (lenS (K.getD k (0, 0))) = cut62 (dsum (K.take (k + 1)))) := Lib.hid (by rw [HS.out, cut62_add hnn hll, hd])
      clear hc x1 x2 HS hd hnn hll hkl
      generalize K.getD k (0, 0) = t at *
      obtain ⟨x, y⟩ := t
      dsimp only at a1 a2 h6
      have e1 : (wr.alloc (.cells #[.int .i64 x, .int .i64 y] 24)).cell? ⟨wr.heap.size, 0, none⟩ = some (.int .i64 x) := by rw [World.cell?_alloc_new]; rfl
      have e2 : (wr.alloc (.cells #[.int .i64 x, .int .i64 y] 24)).cell? ⟨wr.heap.size, 1, none⟩ = some (.int .i64 y) := by rw [World.cell?_alloc_new]; rfl
      have e3 := hb.alloc hb.size (.cells #[.int .i64 x, .int .i64 y] 24)
      have HLc := Lib.hid (fun W c0 c1 c2 => Length3 x y wr.heap.size (.int .i64 x) (.int .i64 y) W0 W h6.1 h6.2 c0 c1 c2)
      generalize cut62 (lenS (x, y)) = l at *
      clear h6 hb
      have w1 : IntKind.i64.wrap (4611686018427387904 - l) = 4611686018427387904 - l := IntWalk.i64_in _ (by omega)
      have w2 : IntKind.i64.wrap (min s (4611686018427387904 - l) + l) = min s (4611686018427387904 - l) + l := IntWalk.i64_in _ (by omega)
      have hdr : ∀ W : World, Below W0.heap.size W0 W.drew = Below W0.heap.size W0 W := fun W => propext ⟨fun h => ⟨h.os, h.tape, h.output, h.size, h.block⟩, fun h => h.drew⟩
      go_wp2
      go_region_held3 (fun w' => w'.cell? ⟨wr.heap.size, 0, none⟩ = some (.int .i64 x) ∧ w'.cell? ⟨wr.heap.size, 1, none⟩ = some (.int .i64 y) ∧ Below W0.heap.size W0 w') (go_keep) (first | (go_at_call 31; refine (HLc.out _ ?_ ?_ ?_).mono ?_; (simp [*]); (simp [*]); (simp [*]); rintro e w' ⟨rfl, k1, k2, k3⟩))
      all_goals
        go_wp2
        exact ⟨⟨k + 1, _, by omega, by go_num, rfl, HX, by assumption⟩, by simp [RowKit.intOf]; omega⟩
    · obtain rfl : n = k := by omega
      have HE : Hid (s = cut62 (dsum K)) := Lib.hid (by rw [HS.out, HN.out, List.take_length])
      go_wp2
      go_ret
      obtain ⟨r1, r2, r3⟩ := HKK.out
      exact ⟨⟨K, r1, r2, r3, by rw [← HE.out]; rfl⟩, hb0.trans (hb.mono hb0.size)⟩

end Go.Proofs.Ytamglmenljgbdaa.Sp
