/-
  What is proved: the contract of Has of a set of days. Conditions: at most 100000 spans, which lie in memory as the contract says.
-/
import Derived.Test.YtefcadngdcgpiaaSpH
namespace Go.Proofs.Ytefcadngdcgpiaa
open Go Go.RowKit Go.Proofs Go.Shelf

theorem count_mono {p : Nat → Bool} : ∀ {n : Nat}, (∀ a b, a ≤ b → b < n → p a = true → p b = true) →
    (∀ j, j < (List.range n).countP (fun i => !p i) → p j = false) ∧ ((List.range n).countP (fun i => !p i) < n → p ((List.range n).countP (fun i => !p i)) = true) ∧ (List.range n).countP (fun i => !p i) ≤ n
  | 0, _ => ⟨fun j hj => by simp at hj, fun h => by simp at h, by simp⟩
  | n + 1, h => by
    obtain ⟨h1, h2, h3⟩ := count_mono (n := n) (fun a b hab hb => h a b hab (by omega))
    rw [List.range_succ, List.countP_append]
    generalize (List.range n).countP (fun i => !p i) = m at *
    cases e : p n
    · have hm : m = n := by
        rcases Nat.lt_or_ge m n with hlt | hge
        · have := h m n (by omega) (by omega) (h2 hlt)
          rw [e] at this; cases this
        · omega
      subst hm
      rw [show List.countP (fun i => !p i) [m] = 1 by simp [e]]
      refine ⟨fun j hj => ?_, fun hh => by omega, by omega⟩
      rcases Nat.lt_or_ge j m with hlt | hge
      · exact h1 j hlt
      · rw [show j = m by omega]; exact e
    · rw [show List.countP (fun i => !p i) [n] = 0 by simp [e], Nat.add_zero]
      refine ⟨h1, fun hh => ?_, by omega⟩
      rcases Nat.lt_or_ge m n with hlt | hge
      · exact h2 hlt
      · rw [show m = n by omega]; exact e
theorem Canon.tos {K : List Sp} (h : Canon K) {a b : Nat} (hab : a ≤ b) (hb : b < K.length) : (K.getD a (0, 0)).2 ≤ (K.getD b (0, 0)).2 := by
  rcases Nat.eq_or_lt_of_le hab with rfl | hlt
  · exact Int.le_refl _
  · rw [getD_at K _ (by omega), getD_at K _ hb]
    have h1 := List.pairwise_iff_getElem.1 h.1 a b (by omega) hb hlt
    have h2 := h.2 _ (List.getElem_mem hb)
    omega
/-- What Has tells, by the place that sort.Search finds. -/
theorem has_place {K : List Sp} (h : Canon K) {d : Int} {m : Nat} (h1 : ∀ j, j < m → decide (d < (K.getD j (0, 0)).2) = false) (h2 : m < K.length → decide (d < (K.getD m (0, 0)).2) = true) :
    hasB K d = decide (m < K.length ∧ (K.getD m (0, 0)).1 ≤ d) := by
  cases e : hasB K d with
  | true =>
    obtain ⟨s, hs, g1, g2⟩ := hasB_iff.1 e
    obtain ⟨j, hj, rfl⟩ := List.getElem_of_mem hs
    have hmj : m ≤ j := by
      rcases Nat.lt_or_ge j m with hlt | hge
      · have := of_decide_eq_false (h1 j hlt)
        rw [getD_at K _ hj] at this
        exact absurd g2 this
      · exact hge
    have hm : m < K.length := by omega
    symm
    rw [decide_eq_true_iff]
    refine ⟨hm, ?_⟩
    rcases Nat.eq_or_lt_of_le hmj with rfl | hlt
    · rw [getD_at K _ hj]; exact g1
    · have h4 := List.pairwise_iff_getElem.1 h.1 m j hm hj hlt
      have h5 := of_decide_eq_true (h2 hm)
      rw [getD_at K _ hm] at h5 ⊢
      have h6 := h.2 _ (List.getElem_mem hm)
      omega
  | false =>
    symm
    rw [decide_eq_false_iff_not]
    rintro ⟨hm, hle⟩
    have h5 := of_decide_eq_true (h2 hm)
    rw [getD_at K _ hm] at h5 hle
    have := hasB_iff.2 (show Mem K d from ⟨_, List.getElem_mem hm, hle, h5⟩)
    rw [e] at this
    cases this
set_option maxHeartbeats 1000000 in
set_option maxRecDepth 100000 in
theorem hasC_any (gd gs : Nat) (p : Option Addr) (c : Nat) (K : List Sp) (d : Int) (i : Nat) (W : World) (hi : i < K.length) (c1 : W.cell? ⟨gd, 0, none⟩ = some (.int .i64 d)) (c2 : W.cell? ⟨gs, 0, none⟩ = some (.slice p K.length c)) (h : SpansIn W p K) :
    Calls Try.prog 41 #[.int .i64 i, .pointer (some ⟨gd, 0, none⟩), .pointer (some ⟨gs, 0, none⟩)] W fun e w' => e = .returned (.bool (decide (d < (K.getD i (0, 0)).2))) ∧ ∃ q os', w' = Sort.grow (W.drewN q) os' := by
  rcases h with h | ⟨b, o, rfl, hc⟩
  · rw [h] at hi; simp at hi
  obtain ⟨x1, x2⟩ := hc i hi
  have i1 : (i : Int) < (K.length : Int) := by omega
  clear hc x1
  generalize K.length = n at *
  generalize (K.getD i (0, 0)).2 = y at *
  go_enter Try.func41, Try.ntmps41
  go_wp2
  go_quiet (fail)
  go_wp2
  go_ret
  exact ⟨rfl, nq, #[], by rw [Sort.grow_empty]⟩
set_option maxHeartbeats 1000000 in
set_option maxRecDepth 100000 in
theorem Has_any (v : Value) (N : Nat) (P : Int → Bool) (d : Int) (w : World) (hN : N ≤ 100000) (h : IsSet w N P v) :
    Calls Try.prog 20 #[v, .int .i64 d] w fun e w' => e = .returned (.bool (P d)) ∧ Below w.heap.size w w' := by
  obtain ⟨K, p, c, rfl, k1, m1, a64, l1, hs, s1⟩ := h
  obtain ⟨W2, hW2⟩ : ∃ W2, W2 = (w.alloc (.cells #[.slice p K.length c] 26)).alloc (.cells #[.int .i64 d] 23) := ⟨_, rfl⟩
  have hb0 : Below w.heap.size w W2 := by rw [hW2]; exact ((Below.refl w.heap.size w).alloc (Nat.le_refl _) _).alloc (by simp) _
  have hza : (w.alloc (.cells #[.slice p K.length c] 26)).heap.size = w.heap.size + 1 := by simp
  have hz : W2.heap.size = w.heap.size + 2 := by rw [hW2]; simp
  have q1 : W2.cell? ⟨w.heap.size, 0, none⟩ = some (.slice p K.length c) := by
    rw [hW2, World.cell?_alloc_lt _ _ _ (by simp), World.cell?_alloc_new]; rfl
  have q2 : W2.cell? ⟨w.heap.size + 1, 0, none⟩ = some (.int .i64 d) := by
    rw [hW2, ← hza, World.cell?_alloc_new]; rfl
  have hsp := s1.below hb0 (Nat.le_refl _)
  have HM : Hid (∀ a b, a ≤ b → b < K.length → decide (d < (K.getD a (0, 0)).2) = true → decide (d < (K.getD b (0, 0)).2) = true) := Lib.hid (fun a b hab hb h => by
    have := Canon.tos k1 hab hb
    have := of_decide_eq_true h
    rw [decide_eq_true_iff]
    omega)
  have hcon := Any.sort_Search Try.laysSearch 41 #[.pointer (some ⟨w.heap.size + 1, 0, none⟩), .pointer (some ⟨w.heap.size, 0, none⟩)] K.length (fun i => decide (d < (K.getD i (0, 0)).2)) W2 (enters_of Try.func41 (by kernel_rfl) rfl) (by omega) (fun m os i hi => by
      have hbg := below_grown_sl W2.heap.size W2 m os (Nat.le_refl _)
      exact hasC_any (w.heap.size + 1) w.heap.size p c K d i _ hi ((hbg.cell (p := ⟨w.heap.size + 1, 0, none⟩) (by show w.heap.size + 1 < _; omega)).trans q2) ((hbg.cell (p := ⟨w.heap.size, 0, none⟩) (by show w.heap.size < _; omega)).trans q1) (hsp.below hbg (Nat.le_refl _))) HM.out
  change Calls Try.prog 40 _ _ _ at hcon
  obtain ⟨g1, g2, g3⟩ := count_mono HM.out
  have HP := Lib.hid (has_place k1 g1 g2)
  have HV : Hid (hasB K d = P d) := Lib.hid (hasB_of m1 d)
  generalize (List.range K.length).countP (fun i => !decide (d < (K.getD i (0, 0)).2)) = m at *
  have HC := Lib.hid hcon
  have HS := Lib.hid hsp
  clear hcon hsp s1 HM g1 g2 a64 hza k1 m1
  go_enter Try.func20, Try.ntmps20
  go_wp2_with fail
  rw [← hW2]
  clear hW2
  refine (HC.out).mono ?_
  rintro e w3 ⟨rfl, nq3, os3, rfl⟩
  have hbg := below_grown_sl W2.heap.size W2 nq3 os3 (Nat.le_refl _)
  have r1 := (hbg.cell (p := ⟨w.heap.size, 0, none⟩) (by show w.heap.size < _; omega)).trans q1
  have r2 := (hbg.cell (p := ⟨w.heap.size + 1, 0, none⟩) (by show w.heap.size + 1 < _; omega)).trans q2
  have hb3 := hb0.trans (hbg.mono (by omega))
  have HS3 := Lib.hid (HS.out.below hbg (Nat.le_refl _))
  have HR := Lib.hid (HV.out.symm.trans HP.out)
  clear HC HS HV HP q1 q2 hb0 hbg
  generalize Sort.grow (W2.drewN nq3) os3 = W3 at *
  by_cases hm : m < K.length
  · rcases HS3.out with h | ⟨b, o, rfl, hc⟩
    · rw [h] at hm; simp at hm
    obtain ⟨x1, -⟩ := hc m hm
    have i1 : (m : Int) < (K.length : Int) := by omega
    clear hc HS3
    generalize (K.getD m (0, 0)).1 = x at *
    by_cases hx : x ≤ d
    · have HT : Hid (P d = true) := Lib.hid (by rw [HR.out]; simp [hm, hx])
      clear HR
      generalize K.length = n at *
      go_wp2
      go_quiet (fail)
      go_wp2
      go_ret
      exact ⟨by rw [HT.out]; rfl, Below.drewsN hb3 _⟩
    · have HT : Hid (P d = false) := Lib.hid (by rw [HR.out]; simp [hx])
      clear HR
      generalize K.length = n at *
      go_wp2
      go_quiet (fail)
      go_wp2
      go_ret
      exact ⟨by rw [HT.out]; show Ending.returned (.bool (decide (x ≤ d))) = _; rw [decide_eq_false (by omega)], Below.drewsN hb3 _⟩
  · have i1 : ¬ (m : Int) < (K.length : Int) := by omega
    have HT : Hid (P d = false) := Lib.hid (by rw [HR.out]; simp [hm])
    clear HR HS3
    generalize K.length = n at *
    go_wp2
    go_quiet (fail)
    go_wp2
    go_ret
    exact ⟨by rw [HT.out]; rfl, Below.drewsN hb3 _⟩

end Go.Proofs.Ytefcadngdcgpiaa
