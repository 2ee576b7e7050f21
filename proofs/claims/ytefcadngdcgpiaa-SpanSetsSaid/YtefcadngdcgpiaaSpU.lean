/-
  What is proved: the contract of the document's Pieces. Conditions: the list's limit; the days lie in memory.
-/
import Derived.Test.YtefcadngdcgpiaaSpT
namespace Go.Proofs.Ytefcadngdcgpiaa
open Go Go.RowKit Go.Proofs
set_option linter.unusedVariables false

/-- Days that are a span's first one, or cuts within it. -/
def CutE (a b : Int) (F : List Int) (E : List Int) : Prop := Rise E ∧ ∀ x, x ∈ E ↔ x = a ∨ (x ∈ F ∧ a < x ∧ x < b)
theorem CutE.start (a b : Int) : CutE a b [] [a] := ⟨List.pairwise_singleton _ _, fun x => by simp⟩
theorem CutE.add {a b x : Int} {F E E' : List Int} (h : CutE a b F E) (h1 : a < x) (h2 : x < b) (hr : Rise E') (hm : ∀ z, z ∈ E' ↔ z = x ∨ z ∈ E) : CutE a b (F ++ [x]) E' := by
  refine ⟨hr, fun z => ?_⟩
  rw [hm z, h.2 z, List.mem_append, List.mem_singleton]
  constructor
  · rintro (rfl | rfl | ⟨q1, q2⟩)
    · exact .inr ⟨.inr rfl, h1, h2⟩
    · exact .inl rfl
    · exact .inr ⟨.inl q1, q2⟩
  · rintro (rfl | ⟨q1 | rfl, q2⟩)
    · exact .inr (.inl rfl)
    · exact .inr (.inr ⟨q1, q2⟩)
    · exact .inl rfl
theorem CutE.skip {a b x : Int} {F E : List Int} (h : CutE a b F E) (hx : ¬ (a < x ∧ x < b)) : CutE a b (F ++ [x]) E := by
  refine ⟨h.1, fun z => ?_⟩
  rw [h.2 z, List.mem_append, List.mem_singleton]
  constructor
  · rintro (rfl | ⟨q1, q2⟩)
    · exact .inl rfl
    · exact .inr ⟨.inl q1, q2⟩
  · rintro (rfl | ⟨q1 | rfl, q2⟩)
    · exact .inl rfl
    · exact .inr ⟨q1, q2⟩
    · exact absurd q2 hx
theorem CutE.cuts {a b : Int} {D E : List Int} (h : CutE a b D E) : ∃ r, E = a :: r ∧ CutsOf a b D r := by
  obtain ⟨hr, hm⟩ := h
  cases E with
  | nil => exact absurd ((hm a).2 (.inl rfl)) (by simp)
  | cons e r =>
    have h1 := Rise.cons hr
    have he : e = a := by
      have ha : a ∈ e :: r := (hm a).2 (.inl rfl)
      rcases List.mem_cons.1 ha with h | h
      · exact h.symm
      · have h3 := h1.1 a h
        rcases (hm e).1 (List.mem_cons_self ..) with h4 | ⟨-, h4, -⟩
        · exact h4
        · omega
    subst he
    refine ⟨r, rfl, hr, fun x => ?_⟩
    have hx := hm x
    constructor
    · intro hxr
      have h5 := h1.1 x hxr
      rcases hx.1 (List.mem_cons_of_mem _ hxr) with h6 | h6
      · omega
      · exact h6
    · intro h6
      rcases List.mem_cons.1 (hx.2 (.inr h6)) with h7 | h7
      · omega
      · exact h7

set_option maxHeartbeats 4000000 in
set_option maxRecDepth 100000 in
theorem rPieces_any (a b : Int) (p : Option Addr) (c : Nat) (D : List Int) (w : World) (hn : D.length ≤ 1000) (h : DaysIn w p D) :
    Calls Try.prog 29 #[.agg #[.int .i64 a, .int .i64 b], .slice p D.length c] w (PiecesPost a b D w) := by
  have hb1 := (Below.refl w.heap.size w).alloc (Nat.le_refl _) (.cells #[.int .i64 a, .int .i64 b] 39)
  have hz1 : (w.alloc (.cells #[.int .i64 a, .int .i64 b] 39)).heap.size = w.heap.size + 1 := by simp
  by_cases hab : b ≤ a
  · go_enter Try.func29, Try.ntmps29
    go_wp2
    go_ret
    exact ⟨[], none, 0, rfl, fun _ => rfl, fun h => absurd h (by omega), by simp, .inl rfl, hb1⟩
  · have hab2 : a < b := by omega
    obtain ⟨W1, hW1⟩ : ∃ W1, W1 = w.alloc (.cells #[.int .i64 a, .int .i64 b] 39) := ⟨_, rfl⟩
    rw [← hW1] at hb1 hz1
    have x1 : W1.cell? ⟨w.heap.size, 0, none⟩ = some (.int .i64 a) := by rw [hW1, World.cell?_alloc_new]; rfl
    have x2 : W1.cell? ⟨w.heap.size, 1, none⟩ = some (.int .i64 b) := by rw [hW1, World.cell?_alloc_new]; rfl
    obtain ⟨W2, hW2⟩ : ∃ W2, W2 = W1.alloc (.cells (dyC [a]).toArray 23) := ⟨_, rfl⟩
    have hz2 : W2.heap.size = w.heap.size + 1 + 1 := by rw [hW2]; simp [hz1]
    have hb2 : Below W1.heap.size W1 W2 := by rw [hW2]; exact (Below.refl _ _).alloc (Nat.le_refl _) _
    have D2 : DaysIn W2 (some ⟨w.heap.size + 1, 0, none⟩) [a] := by rw [hW2, ← hz1]; exact days_new _ _ _
    have y1 := (hb2.cell (p := ⟨w.heap.size, 0, none⟩) (by show w.heap.size < _; omega)).trans x1
    have y2 := (hb2.cell (p := ⟨w.heap.size, 1, none⟩) (by show w.heap.size < _; omega)).trans x2
    have hb3 := hb1.trans (hb2.mono (by omega))
    have HI := Lib.hid (h.below hb3 (Nat.le_refl _))
    have HD2 := Lib.hid D2
    have hE : W2 = (w.alloc (.cells #[.int .i64 a, .int .i64 b] 39)).alloc (.cells #[.int .i64 a] 23) := by rw [hW2, hW1]; rfl
    rw [hW1] at x1 x2
    obtain ⟨n, hnl⟩ : ∃ n, n = D.length := ⟨_, rfl⟩
    rw [← hnl] at hn ⊢
    have HN := Lib.hid hnl
    clear hW1 hW2 hb1 hb2 hz1 D2 h hnl
    go_enter Try.func29, Try.ntmps29
    go_wp2
    rw [← hE]
    clear hE x1 x2
    go_loopw [5, 6] (fun dv kv wr => ∃ (k : Nat) (E : List Int) (q : Option Addr) (m cq : Nat), k ≤ n ∧ kv = .int .i64 k ∧ dv = .slice q m cq ∧ Hid (m = E.length) ∧ Hid (CutE a b (D.take k) E) ∧ m ≤ k + 1 ∧ m ≤ cq ∧ Hid (q = none → cq = 0) ∧ Hid (DaysIn wr q E) ∧ Below W2.heap.size W2 wr) (fun _ kv _ => n - (RowKit.intOf kv).toNat)
    case atStart => exact ⟨0, [a], _, 1, 1, by omega, rfl, rfl, Lib.hid rfl, Lib.hid (CutE.start a b), by omega, by omega, Lib.hid (fun h => by cases h), HD2, Below.refl _ _⟩
    case round =>
      obtain ⟨k, E, q, m, cq, hk, rfl, rfl, HM, HC, hm, hmc, HQ, HDI, hb⟩ := hrel
      clear HD2
      have z1 := (hb.cell (p := ⟨w.heap.size, 0, none⟩) (by show w.heap.size < _; omega)).trans y1
      have z2 := (hb.cell (p := ⟨w.heap.size, 1, none⟩) (by show w.heap.size < _; omega)).trans y2
      by_cases hlt : k < n
      · rcases HI.out with h | ⟨bd, od, rfl, hc⟩
        · have := HN.out; rw [h] at this; simp at this; omega
        have hlt' : k < D.length := by rw [← HN.out]; exact hlt
        have d0 := hc k hlt'
        have HT := Lib.hid (take_next D 0 hlt')
        have d1 := (hb.cell (World.block_lt_of_cell? _ _ d0)).trans d0
        have i1 : (k : Int) < (n : Int) := by omega
        clear hc d0 hlt'
        generalize D.getD k 0 = x at d1 HT
        by_cases hx : a < x ∧ x < b
        · obtain ⟨h1, h2⟩ := hx
          have f1 : decide (a < x) = true := by simpa using h1
          have f2 : decide (x < b) = true := by simpa using h2
          have HP : Hid (∀ W, DaysIn W q E → Calls Try.prog 46 #[.slice q m cq, .int .i64 x] W (PutPost E x W)) := Lib.hid (fun W h => by
            have := put_any q cq E x W (by rw [← HM.out]; omega) (by rw [← HM.out]; exact hmc) HQ.out h HC.out.1
            rwa [← HM.out] at this)
          have HEl : Hid (E.length ≤ k + 1) := Lib.hid (by rw [← HM.out]; exact hm)
          go_wp2
          go_quiet (fail)
          have hbq : Below wr.heap.size wr (wr.drewN nq) := Below.drewsN (Below.refl _ _) _
          have hbw := hb.trans (hbq.mono hb.size)
          have HDq := Lib.hid (HDI.out.below hbq (Nat.le_refl _))
          go_wp2_with fail
          refine (HP.out _ HDq.out).mono ?_
          rintro e w3 ⟨E', q', c', rfl, hR, hM, hl, hc', hn', hI', hb4⟩
          have HC2 : Hid (CutE a b (D.take (k + 1)) E') := Lib.hid (by rw [HT.out]; exact HC.out.add h1 h2 hR hM)
          have HI' := Lib.hid hI'
          have HN' := Lib.hid hn'
          have hl2 : E'.length ≤ k + 1 + 1 := by have := HEl.out; omega
          clear hR hM hI' hn' hl HC HM
          go_wp2
          exact ⟨⟨k + 1, E', q', E'.length, c', by omega, by go_num, rfl, Lib.hid rfl, HC2, hl2, hc', HN', HI', hbw.trans (hb4.mono hbw.size)⟩, by simp [RowKit.intOf]; omega⟩
        · have HC2 : Hid (CutE a b (D.take (k + 1)) E) := Lib.hid (by rw [HT.out]; exact HC.out.skip hx)
          by_cases h1 : a < x
          · have f1 : decide (a < x) = true := by simpa using h1
            have f2 : decide (x < b) = false := by simp; omega
            clear hx HC HT
            go_wp2
            go_quiet (fail)
            go_wp2
            exact ⟨⟨k + 1, E, q, m, cq, by omega, by go_num, rfl, HM, HC2, by omega, hmc, HQ, Lib.hid (HDI.out.below (Below.drewsN (Below.refl _ _) _) (Nat.le_refl _)), Below.drewsN hb _⟩, by simp [RowKit.intOf]; omega⟩
          · have f1 : decide (a < x) = false := by simp; omega
            clear hx HC HT
            go_wp2
            go_quiet (fail)
            go_wp2
            exact ⟨⟨k + 1, E, q, m, cq, by omega, by go_num, rfl, HM, HC2, by omega, hmc, HQ, Lib.hid (HDI.out.below (Below.drewsN (Below.refl _ _) _) (Nat.le_refl _)), Below.drewsN hb _⟩, by simp [RowKit.intOf]; omega⟩
      · obtain rfl : n = k := by omega
        have hC := HC.out
        rw [HN.out, List.take_length] at hC
        obtain ⟨r, hEr, hCr⟩ := hC.cuts
        subst hEr
        have HCR := Lib.hid hCr
        have hml : m = r.length + 1 := by rw [HM.out]; simp
        have HRL := Lib.hid hml
        have hb4 := hb3.trans (hb.mono (by omega))
        obtain ⟨wA, hwA⟩ : ∃ x, x = wr := ⟨_, rfl⟩
        subst hwA
        have hzr : w.heap.size < wA.heap.size := by have := hb.size; omega
        rcases HDI.out with h | ⟨bd, od, rfl, hcd⟩
        · cases h
        have HCD := Lib.hid hcd
        clear hC hCr hml HC HM y1 y2 z1 hcd HDI
        go_wp2
        go_loopw [7, 8] (fun ov kv wr => ∃ (k : Nat) (u : Value), k ≤ m ∧ kv = .int .i64 k ∧ u = ov ∧ Hid (wr.ownsRow wA.heap.size 39 2 u k (spC ((pcs a r b).take k))) ∧ Below wA.heap.size wA wr) (fun _ kv _ => m - (RowKit.intOf kv).toNat)
        case atStart => exact ⟨0, _, by omega, rfl, rfl, Lib.hid (World.ownsRow_nil _ _ _ _), Below.refl _ _⟩
        case round =>
          obtain ⟨k, u, hk, rfl, rfl, HO, hbx⟩ := hrel
          have z3 := (hbx.cell (p := ⟨w.heap.size, 1, none⟩) hzr).trans z2
          by_cases hlt : k < m
          · have hk1 : k < r.length + 1 := by rw [← HRL.out]; exact hlt
            have d0 := HCD.out k (by simpa using hk1)
            have d1 := (hbx.cell (World.block_lt_of_cell? _ _ d0)).trans d0
            have i1 : (k : Int) < (m : Int) := by omega
            have HT : Hid ((pcs a r b).take (k + 1) = (pcs a r b).take k ++ [((a :: r).getD k 0, if k + 1 < r.length + 1 then (a :: r).getD (k + 1) 0 else b)]) := Lib.hid (by
              rw [take_next (pcs a r b) (0, 0) (by rw [pcs_len]; exact hk1), pcs_at a r b k hk1])
            by_cases hk2 : k + 1 < m
            · have hk3 : k + 1 < r.length + 1 := by rw [← HRL.out]; exact hk2
              have e0 := HCD.out (k + 1) (by simpa using hk3)
              have e1 := (hbx.cell (World.block_lt_of_cell? _ _ e0)).trans e0
              have i2 : (k : Int) + 1 < (m : Int) := by omega
              rw [if_pos hk3] at HT
              clear hk1 hk3 d0 e0
              generalize (a :: r).getD k 0 = x at *
              generalize (a :: r).getD (k + 1) 0 = y at *
              go_wp2_with (at_builtin; refine app_arm Try.underlying22 infoSpan rfl (by omega) (by omega) wA.heap.size wr _ k _ HO.out 1 [.int .i64 x, .int .i64 y] rfl (spC_one (L := [(x, y)])) (by omega) hbx.size rfl _ _ rfl rfl rfl ?_; intro v' w5 ho5 hg5)
              exact ⟨⟨k + 1, v', by omega, by go_num, rfl, Lib.hid (by rw [HT.out, spC_app]; exact ho5), (hbx.alloc hbx.size _).grown hg5 (by have := hbx.size; simp; omega) (fun j hj => (HO.out.lt j hj).1)⟩, by simp [RowKit.intOf]; omega⟩
            · have hk3 : ¬ k + 1 < r.length + 1 := by rw [← HRL.out]; exact hk2
              have i2 : ¬ (k : Int) + 1 < (m : Int) := by omega
              rw [if_neg hk3] at HT
              clear hk1 hk3 d0
              generalize (a :: r).getD k 0 = x at *
              go_wp2_with (at_builtin; refine app_arm Try.underlying22 infoSpan rfl (by omega) (by omega) wA.heap.size wr _ k _ HO.out 1 [.int .i64 x, .int .i64 b] rfl (spC_one (L := [(x, b)])) (by omega) hbx.size rfl _ _ rfl rfl rfl ?_; intro v' w5 ho5 hg5)
              exact ⟨⟨k + 1, v', by omega, by go_num, rfl, Lib.hid (by rw [HT.out, spC_app]; exact ho5), (hbx.alloc hbx.size _).grown hg5 (by have := hbx.size; simp; omega) (fun j hj => (HO.out.lt j hj).1)⟩, by simp [RowKit.intOf]; omega⟩
          · obtain rfl : m = k := by omega
            have hKl : (pcs a r b).length = m := by rw [pcs_len, HRL.out]
            have hO := HO.out
            rw [← hKl, List.take_length, hKl] at hO
            obtain ⟨q', c'', hv, -⟩ := own_slice hO
            have hQ : SpansIn wr q' (pcs a r b) := by rw [hv] at hO; exact SpansIn.of_own (n := m) (c := c'') (base := wA.heap.size) (E := 39) (by rw [hKl]; exact hO)
            have hlen : m ≤ D.length + 1 := by rw [← HN.out]; exact hm
            clear hO
            go_wp2
            go_ret
            exact ⟨pcs a r b, q', c'', by rw [hKl]; exact congrArg _ hv, fun h => absurd h (by omega), fun _ => ⟨r, HCR.out, rfl⟩, by rw [hKl]; exact hlen, hQ, hb4.trans (hbx.mono hb4.size)⟩

end Go.Proofs.Ytefcadngdcgpiaa
