/-
  What is proved: the contracts of the document's Same, In and Any, and of span.Cross. Conditions: at most 100000 spans, which lie in memory as the contract says.
-/
import Derived.Test.YtefcadngdcgpiaaSpH
import Derived.Laws.StructEq
namespace Go.Proofs.Ytefcadngdcgpiaa
open Go Go.RowKit Go.Proofs

theorem stoodSpan : Try.prog.stoodInHeld 39 = false := by kernel_rfl
theorem guardSpan : Try.prog.eqGuardType Try.prog.depth 39 = false := by kernel_rfl
theorem fieldsSpan' : (Try.prog.fieldsOf 39).toList.map (fun f => (f.name, f.type, f.offset)) = [("From", 23, 0), ("To", 23, 1)] := by kernel_rfl
theorem fieldsSpan : ∃ f g, (Try.prog.fieldsOf 39).toList = [f, g] ∧ f.name = "From" ∧ f.type = 23 ∧ f.offset = 0 ∧ g.name = "To" ∧ g.type = 23 ∧ g.offset = 1 := by
  obtain ⟨f, l, h1, h2, h3⟩ := List.map_eq_cons_iff.1 fieldsSpan'
  obtain ⟨g, l2, rfl, h4, h5⟩ := List.map_eq_cons_iff.1 h3
  obtain rfl := List.map_eq_nil_iff.1 h5
  injection h2 with a1 a2
  injection a2 with a2 a3
  injection h4 with b1 b2
  injection b2 with b2 b3
  exact ⟨f, g, h1, a1, a2, a3, b1, b2, b3⟩
theorem structSpan : Try.prog.underlying 39 = some (.struct (Try.prog.fieldsOf 39)) := by kernel_rfl
theorem neqSpan (x y x' y' : Int) (W : World) : (binOp .neq 39 (.agg #[.int .i64 x, .int .i64 y]) (.agg #[.int .i64 x', .int .i64 y'])).run Try.prog W = .ok (.bool (!(x == x' && y == y'))) W := by
  rw [run_neq_struct, run_equalIn_agg W 9999 _ _ _ structSpan stoodSpan]
  obtain ⟨f, g, hfg, f1, f2, f3, g1, g2, g3⟩ := fieldsSpan
  rw [hfg]
  have hu := Try.underlying23
  cases h1 : (x == x') <;> cases h2 : (y == y') <;> simp [Op.eqFields, f1, f2, f3, g1, g2, g3, go_sem, part, hu, h1, h2]
set_option maxHeartbeats 1000000 in
set_option maxRecDepth 100000 in
theorem Same_any (p q : Option Addr) (c c' : Nat) (K L : List Sp) (w : World) (hK : K.length ≤ 100000) (h1 : SpansIn w p K) (h2 : SpansIn w q L) :
    Calls Try.prog 14 #[.slice p K.length c, .slice q L.length c'] w fun e w' => e = .returned (.bool (decide (K = L))) ∧ Below w.heap.size w w' := by
  by_cases hl : K.length = L.length
  · rw [← hl]
    have HE : Hid ((∀ j, j < K.length → K.getD j (0, 0) = L.getD j (0, 0)) → K = L) := Lib.hid (fun h => List.ext_getElem hl (fun i a b => by have := h i a; rwa [getD_at _ _ a, getD_at _ _ b] at this))
    have HL := Lib.hid hl
    have H1 := Lib.hid h1
    have H2 := Lib.hid h2
    obtain ⟨n, hn⟩ : ∃ n, n = K.length := ⟨_, rfl⟩
    have HN := Lib.hid hn
    rw [← hn] at hK HE ⊢
    clear hn h1 h2 hl
    go_enter Try.func14, Try.ntmps14
    go_wp2
    go_loopw [5] (fun iv wr => ∃ k : Nat, k ≤ n ∧ iv = .int .i64 k ∧ Hid (∀ j, j < k → K.getD j (0, 0) = L.getD j (0, 0)) ∧ Below w.heap.size w wr) (fun iv _ => n - (RowKit.intOf iv).toNat)
    case atStart => exact ⟨0, by omega, rfl, Lib.hid (fun j hj => absurd hj (Nat.not_lt_zero _)), Below.refl _ _⟩
    case round =>
      obtain ⟨k, hk, rfl, HA, hb⟩ := hrel
      by_cases hlt : k < n
      · rcases H1.out with h | ⟨b, o, rfl, hc⟩
        · have := HN.out; rw [h] at this; simp at this; omega
        rcases H2.out with h | ⟨b', o', rfl, hc'⟩
        · have := HN.out; rw [HL.out, h] at this; simp at this; omega
        obtain ⟨x1, x2⟩ := hc k (by rw [← HN.out]; exact hlt)
        obtain ⟨y1, y2⟩ := hc' k (by rw [← HL.out, ← HN.out]; exact hlt)
        have a1 := (hb.cell (p := ⟨b, o + k * 2, none⟩) (World.block_lt_of_cell? w _ x1)).trans x1
        have a2 := (hb.cell (p := ⟨b, o + k * 2 + 1, none⟩) (World.block_lt_of_cell? w _ x2)).trans x2
        have a3 := (hb.cell (p := ⟨b', o' + k * 2, none⟩) (World.block_lt_of_cell? w _ y1)).trans y1
        have a4 := (hb.cell (p := ⟨b', o' + k * 2 + 1, none⟩) (World.block_lt_of_cell? w _ y2)).trans y2
        have i1 : (k : Int) < (n : Int) := by omega
        clear hc hc' x1 x2 y1 y2
        have hne : K.getD k (0, 0) ≠ L.getD k (0, 0) → K ≠ L := fun h e => h (by rw [e])
        have hnx : K.getD k (0, 0) = L.getD k (0, 0) → ∀ j, j < k + 1 → K.getD j (0, 0) = L.getD j (0, 0) := fun h j hj => by
          by_cases e : j = k
          · rw [e]; exact h
          · exact HA.out j (by omega)
        have HNE := Lib.hid hne
        have HNX := Lib.hid hnx
        clear hne hnx HA
        generalize K.getD k (0, 0) = s at *
        generalize L.getD k (0, 0) = t at *
        obtain ⟨sx, sy⟩ := s
        obtain ⟨tx, ty⟩ := t
        dsimp only at a1 a2 a3 a4
        by_cases hs : sx = tx ∧ sy = ty
        · obtain ⟨rfl, rfl⟩ := hs
          have HNY := Lib.hid (HNX.out rfl)
          have hq : ∀ W, (binOp .neq 39 (.agg #[.int .i64 sx, .int .i64 sy]) (.agg #[.int .i64 sx, .int .i64 sy])).run Try.prog W = .ok (.bool false) W := fun W => by rw [neqSpan]; simp
          have hgs := guardSpan
          clear HNE HNX
          go_wp2
          go_quiet (fail)
          go_wp2
          exact ⟨⟨k + 1, by omega, by go_num, HNY, Below.drewsN hb _⟩, by simp [RowKit.intOf]; omega⟩
        · have HNO : Hid (K ≠ L) := Lib.hid (HNE.out (fun e => hs (by injection e with e1 e2; exact ⟨e1, e2⟩)))
          have hq : ∀ W, (binOp .neq 39 (.agg #[.int .i64 sx, .int .i64 sy]) (.agg #[.int .i64 tx, .int .i64 ty])).run Try.prog W = .ok (.bool true) W := fun W => by
            rw [neqSpan]
            by_cases e1 : sx = tx
            · have e2 : (sy == ty) = false := by simp; exact fun e => hs ⟨e1, e⟩
              simp [e2]
            · simp [e1]
          have hgs := guardSpan
          have HDF : Hid (decide (K = L) = false) := Lib.hid (by simp [HNO.out])
          clear HNE HNX
          go_wp2
          go_quiet (fail)
          go_wp2
          go_ret
          exact ⟨by rw [HDF.out]; rfl, Below.drewsN hb _⟩
      · obtain rfl : n = k := by omega
        have HDT : Hid (decide (K = L) = true) := Lib.hid (by simp [HE.out HA.out])
        go_wp2
        go_ret
        exact ⟨by rw [HDT.out]; rfl, hb⟩
  · have HDF : Hid (decide (K = L) = false) := Lib.hid (by
      rw [decide_eq_false_iff_not]
      intro e
      exact hl (by rw [e]))
    have hl2 : ¬ ((K.length : Int) = (L.length : Int)) := by omega
    clear h1 h2
    go_enter Try.func14, Try.ntmps14
    go_wp2
    go_ret
    exact ⟨by rw [HDF.out]; rfl, Below.refl _ _⟩

theorem In_any (x y d : Int) (w : World) : Calls Try.prog 42 #[.agg #[.int .i64 x, .int .i64 y], .int .i64 d] w fun e w' => e = .returned (.bool (decide (x ≤ d ∧ d < y))) ∧ Below w.heap.size w w' := by
  have hb1 := (Below.refl w.heap.size w).alloc (Nat.le_refl _) (.cells #[.int .i64 x, .int .i64 y] 39)
  by_cases h1 : x ≤ d <;> by_cases h2 : d < y
  · rw [show decide (x ≤ d ∧ d < y) = true by simp [h1, h2]]
    go_enter Try.func42, Try.ntmps42
    go_wp2
    go_ret
    exact ⟨rfl, hb1⟩
  all_goals
    rw [show decide (x ≤ d ∧ d < y) = false by simp [h1, h2]]
    go_enter Try.func42, Try.ntmps42
    go_wp2
    go_ret
    exact ⟨rfl, hb1⟩
def inB (s : Sp) (d : Int) : Bool := decide (s.1 ≤ d ∧ d < s.2)
theorem hasB_yes {L : List Sp} {d : Int} {j : Nat} (hj : j < L.length) (h : inB (L.getD j (0, 0)) d = true) : hasB L d = true := by
  rw [hasB_iff]
  rw [getD_at L _ hj] at h
  exact ⟨_, List.getElem_mem hj, of_decide_eq_true h⟩
theorem hasB_no {L : List Sp} {d : Int} (h : ∀ j, j < L.length → inB (L.getD j (0, 0)) d = false) : hasB L d = false := by
  cases e : hasB L d with
  | false => rfl
  | true =>
    obtain ⟨s, hs, h1⟩ := hasB_iff.1 e
    obtain ⟨j, hj, rfl⟩ := List.getElem_of_mem hs
    have := h j hj
    rw [getD_at L _ hj] at this
    exact absurd h1 (of_decide_eq_false this)
set_option maxHeartbeats 1000000 in
set_option maxRecDepth 100000 in
theorem rAny_any (p : Option Addr) (c : Nat) (L : List Sp) (d : Int) (w : World) (hn : L.length ≤ 100000) (h : SpansIn w p L) :
    Calls Try.prog 21 #[.slice p L.length c, .int .i64 d] w fun e w' => e = .returned (.bool (hasB L d)) ∧ Below w.heap.size w w' := by
  have HI := Lib.hid h
  clear h
  have HY : Hid (∀ j, j < L.length → inB (L.getD j (0, 0)) d = true → hasB L d = true) := Lib.hid (fun j hj h => hasB_yes hj h)
  have HNO : Hid ((∀ j, j < L.length → inB (L.getD j (0, 0)) d = false) → hasB L d = false) := Lib.hid (fun h => hasB_no h)
  generalize hasB L d = r at *
  obtain ⟨n, hnl⟩ : ∃ n, n = L.length := ⟨_, rfl⟩
  rw [← hnl] at hn HY HNO ⊢
  have HN := Lib.hid hnl
  clear hnl
  go_enter Try.func21, Try.ntmps21
  go_wp2
  go_loopw [5] (fun iv wr => ∃ k : Nat, k ≤ n ∧ iv = .int .i64 k ∧ Hid (∀ j, j < k → inB (L.getD j (0, 0)) d = false) ∧ Below w.heap.size w wr) (fun iv _ => n - (RowKit.intOf iv).toNat)
  case atStart => exact ⟨0, by omega, rfl, Lib.hid (fun j hj => absurd hj (Nat.not_lt_zero _)), Below.refl _ _⟩
  case round =>
    obtain ⟨k, hk, rfl, HA, hb⟩ := hrel
    by_cases hlt : k < n
    · rcases HI.out with h | ⟨b, o, rfl, hc⟩
      · have := HN.out; rw [h] at this; simp at this; omega
      obtain ⟨x1, x2⟩ := hc k (by rw [← HN.out]; exact hlt)
      have a1 := (hb.cell (p := ⟨b, o + k * 2, none⟩) (World.block_lt_of_cell? w _ x1)).trans x1
      have a2 := (hb.cell (p := ⟨b, o + k * 2 + 1, none⟩) (World.block_lt_of_cell? w _ x2)).trans x2
      have i1 : (k : Int) < (n : Int) := by omega
      have HYK := Lib.hid (HY.out k hlt)
      have HNX : Hid (inB (L.getD k (0, 0)) d = false → ∀ j, j < k + 1 → inB (L.getD j (0, 0)) d = false) := Lib.hid (fun h j hj => by
        by_cases e : j = k
        · rw [e]; exact h
        · exact HA.out j (by omega))
      clear hc x1 x2 HA
      generalize L.getD k (0, 0) = s at *
      obtain ⟨x, y⟩ := s
      dsimp only at a1 a2
      cases hi : inB (x, y) d
      · have HNY := Lib.hid (HNX.out hi)
        clear HYK HNX
        go_wp2_with fail
        refine (In_any _ _ _ _).mono ?_
        rintro e w2 ⟨rfl, hb2⟩
        rw [show decide (x ≤ d ∧ d < y) = false from hi]
        have hb3 := hb.trans (hb2.mono hb.size)
        go_wp2
        exact ⟨⟨k + 1, by omega, by go_num, HNY, hb3⟩, by simp [RowKit.intOf]; omega⟩
      · have hr := HYK.out hi
        clear HYK HNX
        go_wp2_with fail
        refine (In_any _ _ _ _).mono ?_
        rintro e w2 ⟨rfl, hb2⟩
        rw [show decide (x ≤ d ∧ d < y) = true from hi]
        have hb3 := hb.trans (hb2.mono hb.size)
        go_wp2
        go_ret
        exact ⟨by rw [hr]; rfl, hb3⟩
    · obtain rfl : n = k := by omega
      have hr := HNO.out HA.out
      go_wp2
      go_ret
      exact ⟨by rw [hr]; rfl, hb⟩

/-- What two spans have in common. -/
def crossS (s t : Sp) : Sp := if min s.2 t.2 ≤ max s.1 t.1 then (0, 0) else (max s.1 t.1, min s.2 t.2)
set_option maxHeartbeats 1000000 in
set_option maxRecDepth 100000 in
theorem Cross_any (a b a' b' : Int) (w : World) : Calls Try.prog 26 #[.agg #[.int .i64 a, .int .i64 b], .agg #[.int .i64 a', .int .i64 b']] w fun e w' => e = .returned (.agg #[.int .i64 (crossS (a, b) (a', b')).1, .int .i64 (crossS (a, b) (a', b')).2]) ∧ Below w.heap.size w w' := by
  obtain ⟨W4, hW4⟩ : ∃ W4, W4 = (((w.alloc (.cells #[.int .i64 a, .int .i64 b] 39)).alloc (.cells #[.int .i64 a', .int .i64 b'] 39)).alloc (.cells #[.int .i64 0, .int .i64 0] 39)).alloc (.cells #[.int .i64 (max a a'), .int .i64 (min b b')] 39) := ⟨_, rfl⟩
  have hb0 : Below w.heap.size w W4 := by rw [hW4]; exact ((((Below.refl w.heap.size w).alloc (Nat.le_refl _) _).alloc (by simp) _).alloc (by simp; omega) _).alloc (by simp; omega) _
  have hz : W4.heap.size = w.heap.size + 4 := by rw [hW4]; simp
  have hz2 : ((w.alloc (.cells #[.int .i64 a, .int .i64 b] 39)).alloc (.cells #[.int .i64 a', .int .i64 b'] 39)).heap.size = w.heap.size + 1 + 1 := by simp
  have hz3 : (((w.alloc (.cells #[.int .i64 a, .int .i64 b] 39)).alloc (.cells #[.int .i64 a', .int .i64 b'] 39)).alloc (.cells #[.int .i64 0, .int .i64 0] 39)).heap.size = w.heap.size + 1 + 1 + 1 := by simp
  have q1 : W4.cell? ⟨w.heap.size + 1 + 1 + 1, 0, none⟩ = some (.int .i64 (max a a')) := by rw [hW4, ← hz3, World.cell?_alloc_new]; rfl
  have q2 : W4.cell? ⟨w.heap.size + 1 + 1 + 1, 1, none⟩ = some (.int .i64 (min b b')) := by rw [hW4, ← hz3, World.cell?_alloc_new]; rfl
  have q3 : W4.cell? ⟨w.heap.size + 1 + 1, 0, none⟩ = some (.int .i64 0) := by rw [hW4, World.cell?_alloc_lt _ _ _ (by rw [hz3]; show w.heap.size + 1 + 1 < _; omega), ← hz2, World.cell?_alloc_new]; rfl
  have q4 : W4.cell? ⟨w.heap.size + 1 + 1, 1, none⟩ = some (.int .i64 0) := by rw [hW4, World.cell?_alloc_lt _ _ _ (by rw [hz3]; show w.heap.size + 1 + 1 < _; omega), ← hz2, World.cell?_alloc_new]; rfl
  have hbx : Below (w.heap.size + 1 + 1 + 1) (((w.alloc (.cells #[.int .i64 a, .int .i64 b] 39)).alloc (.cells #[.int .i64 a', .int .i64 b'] 39)).alloc (.cells #[.int .i64 0, .int .i64 0] 39)) W4 := by rw [hW4]; exact (Below.refl _ _).alloc (by rw [hz3]; exact Nat.le_refl _) _
  have f3 : W4.frozen? ⟨w.heap.size + 1 + 1, 0, none⟩ = false := by rw [hbx.frozen (p := ⟨w.heap.size + 1 + 1, 0, none⟩) (by show w.heap.size + 1 + 1 < _; omega), ← hz2]; exact new_unfrozen _ _ _ _
  have f4 : W4.frozen? ⟨w.heap.size + 1 + 1, 1, none⟩ = false := by rw [hbx.frozen (p := ⟨w.heap.size + 1 + 1, 1, none⟩) (by show w.heap.size + 1 + 1 < _; omega), ← hz2]; exact new_unfrozen _ _ _ _
  clear hbx hz2 hz3
  cases he : emB (max a a', min b b')
  · have hc : crossS (a, b) (a', b') = (max a a', min b b') := by unfold crossS; rw [if_neg]; simpa [emB] using he
    rw [hc]
    clear hc
    go_enter Try.func26, Try.ntmps26
    go_wp2_with fail
    rw [← hW4]
    clear hW4
    refine (isEmpty_any _ _ _).mono ?_
    rintro e w2 ⟨rfl, hb2⟩
    rw [he]
    have r1 := (hb2.cell (p := ⟨w.heap.size + 1 + 1 + 1, 0, none⟩) (by show w.heap.size + 1 + 1 + 1 < _; omega)).trans q1
    have r2 := (hb2.cell (p := ⟨w.heap.size + 1 + 1 + 1, 1, none⟩) (by show w.heap.size + 1 + 1 + 1 < _; omega)).trans q2
    have r3 := (hb2.cell (p := ⟨w.heap.size + 1 + 1, 0, none⟩) (by show w.heap.size + 1 + 1 < _; omega)).trans q3
    have r4 := (hb2.cell (p := ⟨w.heap.size + 1 + 1, 1, none⟩) (by show w.heap.size + 1 + 1 < _; omega)).trans q4
    have g3 := (hb2.frozen (p := ⟨w.heap.size + 1 + 1, 0, none⟩) (by show w.heap.size + 1 + 1 < _; omega)).trans f3
    have g4 := (hb2.frozen (p := ⟨w.heap.size + 1 + 1, 1, none⟩) (by show w.heap.size + 1 + 1 < _; omega)).trans f4
    have hb3 := hb0.trans (hb2.mono (by omega))
    clear q1 q2 q3 q4 f3 f4 hb0 hb2
    have hb4 := (hb3.setCell (p := ⟨w.heap.size + 1 + 1, 0, none⟩) (by show w.heap.size ≤ w.heap.size + 1 + 1; omega) (.int .i64 (max a a'))).setCell (p := ⟨w.heap.size + 1 + 1, 1, none⟩) (by show w.heap.size ≤ w.heap.size + 1 + 1; omega) (.int .i64 (min b b'))
    have t1 : ((w2.setCell ⟨w.heap.size + 1 + 1, 0, none⟩ (.int .i64 (max a a'))).setCell ⟨w.heap.size + 1 + 1, 1, none⟩ (.int .i64 (min b b'))).cell? ⟨w.heap.size + 1 + 1, 0, none⟩ = some (.int .i64 (max a a')) := by
      rw [World.cell?_setCell_other _ _ _ _ (fun e => by injection e with _ e; omega)]
      exact World.cell?_setCell_same _ _ _ r3
    have t2 : ((w2.setCell ⟨w.heap.size + 1 + 1, 0, none⟩ (.int .i64 (max a a'))).setCell ⟨w.heap.size + 1 + 1, 1, none⟩ (.int .i64 (min b b'))).cell? ⟨w.heap.size + 1 + 1, 1, none⟩ = some (.int .i64 (min b b')) :=
      World.cell?_setCell_same _ _ _ ((World.cell?_setCell_other _ _ _ _ (fun e => by injection e with _ e; omega)).trans r4)
    go_wp2
    exact bodyPost_ret (v := .agg #[.int .i64 (max a a'), .int .i64 (min b b')]) (by simp [results, Try.results26, go_sem, t1, t2]) rfl ⟨rfl, hb4⟩
  · have hc : crossS (a, b) (a', b') = (0, 0) := by unfold crossS; rw [if_pos]; simpa [emB] using he
    rw [hc]
    clear hc
    go_enter Try.func26, Try.ntmps26
    go_wp2_with fail
    rw [← hW4]
    clear hW4
    refine (isEmpty_any _ _ _).mono ?_
    rintro e w2 ⟨rfl, hb2⟩
    rw [he]
    have r3 := (hb2.cell (p := ⟨w.heap.size + 1 + 1, 0, none⟩) (by show w.heap.size + 1 + 1 < _; omega)).trans q3
    have r4 := (hb2.cell (p := ⟨w.heap.size + 1 + 1, 1, none⟩) (by show w.heap.size + 1 + 1 < _; omega)).trans q4
    have g3 := (hb2.frozen (p := ⟨w.heap.size + 1 + 1, 0, none⟩) (by show w.heap.size + 1 + 1 < _; omega)).trans f3
    have g4 := (hb2.frozen (p := ⟨w.heap.size + 1 + 1, 1, none⟩) (by show w.heap.size + 1 + 1 < _; omega)).trans f4
    have hb3 := hb0.trans (hb2.mono (by omega))
    clear q1 q2 q3 q4 f3 f4 hb0 hb2
    have hb4 := (hb3.setCell (p := ⟨w.heap.size + 1 + 1, 0, none⟩) (by show w.heap.size ≤ w.heap.size + 1 + 1; omega) (.int .i64 0)).setCell (p := ⟨w.heap.size + 1 + 1, 1, none⟩) (by show w.heap.size ≤ w.heap.size + 1 + 1; omega) (.int .i64 0)
    have t1 : ((w2.setCell ⟨w.heap.size + 1 + 1, 0, none⟩ (.int .i64 0)).setCell ⟨w.heap.size + 1 + 1, 1, none⟩ (.int .i64 0)).cell? ⟨w.heap.size + 1 + 1, 0, none⟩ = some (.int .i64 0) := by
      rw [World.cell?_setCell_other _ _ _ _ (fun e => by injection e with _ e; omega)]
      exact World.cell?_setCell_same _ _ _ r3
    have t2 : ((w2.setCell ⟨w.heap.size + 1 + 1, 0, none⟩ (.int .i64 0)).setCell ⟨w.heap.size + 1 + 1, 1, none⟩ (.int .i64 0)).cell? ⟨w.heap.size + 1 + 1, 1, none⟩ = some (.int .i64 0) :=
      World.cell?_setCell_same _ _ _ ((World.cell?_setCell_other _ _ _ _ (fun e => by injection e with _ e; omega)).trans r4)
    go_wp2
    exact bodyPost_ret (v := .agg #[.int .i64 0, .int .i64 0]) (by simp [results, Try.results26, go_sem, t1, t2]) rfl ⟨rfl, hb4⟩

end Go.Proofs.Ytefcadngdcgpiaa
