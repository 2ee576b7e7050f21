/-
  What is proved: the document's examples of span come out as it says ('awake' of the statements of span returns true). Conditions: none.
-/
import Derived.Test.YtefcadngdcgpiaaSpN
namespace Go.Proofs.Ytefcadngdcgpiaa
open Go Go.RowKit Go.Proofs

set_option maxHeartbeats 1000000 in
set_option maxRecDepth 100000 in
theorem awake_any (w : World) : Calls Try.prog 11 #[] w fun e w' => e = .returned (.bool true) ∧ Below w.heap.size w w' := by
  have hb0 := (Below.refl w.heap.size w).alloc (Nat.le_refl _) (.cells (spC [(1, 3), (3, 5), (9, 9), (7, 8)]).toArray 39)
  have HOf := Lib.hid (Of_set _ 4 [(1, 3), (3, 5), (9, 9), (7, 8)] _ (by simp) (fun s hs => by simp at hs; rcases hs with rfl | rfl | rfl | rfl <;> (unfold in64; omega)) (spans_new w [(1, 3), (3, 5), (9, 9), (7, 8)] 39))
  go_enter Try.func11, Try.ntmps11
  go_wp2_with fail
  refine (HOf.out).mono ?_
  rintro e w1 ⟨v, rfl, hset, hb1, -⟩
  have hb2 := hb0.trans (hb1.mono hb0.size)
  obtain ⟨K, p, c, rfl, k1, m1, a64, l1, hs, s1⟩ := hset
  have hz2 := hb2.size
  have x1 : (w1.alloc (.cells #[.slice p K.length c] 26)).cell? ⟨w1.heap.size, 0, none⟩ = some (.slice p K.length c) := by rw [World.cell?_alloc_new]; rfl
  have hb3 := hb2.alloc hz2 (.cells #[.slice p K.length c] 26)
  have HS : Hid (IsSet (w1.alloc (.cells #[.slice p K.length c] 26)) 8 (fun d => hasB [(1, 3), (3, 5), (9, 9), (7, 8)] d) (.agg #[.slice p K.length c])) := Lib.hid ⟨K, p, c, rfl, k1, m1, a64, l1, hs, s1.below ((Below.refl w1.heap.size w1).alloc (Nat.le_refl _) _) (Nat.le_refl _)⟩
  clear k1 m1 a64 l1 hs s1 HOf hb0 hb1
  go_wp2_with fail
  refine (All_any _ 8 _ _ (by omega) HS.out).mono ?_
  rintro e w2 ⟨K2, q2, c2, rfl, k2, m2, a2, l2, s2, hb4⟩
  have x2 := (hb4.cell (p := ⟨w1.heap.size, 0, none⟩) (by show w1.heap.size < _; simp)).trans x1
  have HS2 := Lib.hid (HS.out.below hb4 (Nat.le_refl _))
  have hb5 := hb3.trans (hb4.mono hb3.size)
  obtain rfl : K2 = [(1, 5), (7, 8)] := canon_one k2 (by unfold Canon; simp) (fun d => by rw [m2 d, hasB_iff]; unfold Mem; simp; omega)
  have HL := Lib.hid s2
  clear k2 m2 a2 l2 s2 HS x1 hb3 hb2 hb4
  have HO2 := Lib.hid (fun g W (h : SpansIn W (some ⟨g, 0, none⟩) [(2, 4)]) => Of_set _ 1 [(2, 4)] W (by simp) (fun s hs => by simp at hs; rcases hs with rfl; (unfold in64; omega)) h)
  have HN1 := Lib.hid ((spans_new w2 [(2, 4)] 39).below kb_drew (Nat.le_refl _))
  have HN2 := Lib.hid (((spans_new w2 [(2, 4)] 39).below ((Below.refl _ _).alloc (Nat.le_refl _) (.cells #[.slice none 0 0] 26)) (Nat.le_refl _)).below kb_drew (Nat.le_refl _))
  have HN3 := Lib.hid ((spans_new (w2.alloc (.cells #[.slice none 0 0] 26)) [(2, 4)] 39).below kb_drew (Nat.le_refl _))
  have hsz : (w2.alloc (.cells #[.slice none 0 0] 26)).heap.size = w2.heap.size + 1 := by simp
  rw [hsz] at HN3
  have hsz2 : (w2.alloc (.cells (spC [(2, 4)]).toArray 39)).heap.size = w2.heap.size + 1 := by simp
  have b1 : ((w2.alloc (.cells (spC [(2, 4)]).toArray 39)).alloc (.cells #[.slice none 0 0] 26)).drew.cell? ⟨w2.heap.size + 1, 0, none⟩ = some (.slice none 0 0) := by rw [← hsz2]; exact new_cell _ _ _
  have b2 : ((w2.alloc (.cells (spC [(2, 4)]).toArray 39)).alloc (.cells #[.slice none 0 0] 26)).drew.frozen? ⟨w2.heap.size + 1, 0, none⟩ = false := by rw [← hsz2]; exact new_unfrozen _ _ _ _
  have b3 : ((w2.alloc (.cells #[.slice none 0 0] 26)).alloc (.cells (spC [(2, 4)]).toArray 39)).drew.cell? ⟨w2.heap.size, 0, none⟩ = some (.slice none 0 0) := (World.cell?_alloc_lt _ _ _ (by simp)).trans (new_cell _ _ _)
  have b4 : ((w2.alloc (.cells #[.slice none 0 0] 26)).alloc (.cells (spC [(2, 4)]).toArray 39)).drew.frozen? ⟨w2.heap.size, 0, none⟩ = false := (((Below.refl _ _).alloc (Nat.le_refl _) (.cells (spC [(2, 4)]).toArray 39)).frozen (p := ⟨w2.heap.size, 0, none⟩) (by simp)).trans (new_unfrozen w2 _ _ 0)
  have B1 := Lib.hid b1
  have B2 := Lib.hid b2
  have B3 := Lib.hid b3
  have B4 := Lib.hid b4
  clear b1 b2 b3 b4 hsz2
  go_wp2
  go_region_held3 (fun w' => w'.cell? ⟨w1.heap.size, 0, none⟩ = some (.slice p K.length c) ∧ Below w2.heap.size w2 w')
    (first | exact kp1 x2 kb_drew | exact kp1 x2 (by assumption) | exact kp1 x2 (kb_al (by assumption)) | exact kp1 x2 (kb_alloc (by assumption)) | exact kp1 x2 (kb_alloc (by assumption)).drew | exact kp1 x2 (kb_call (by assumption) (by assumption)) | exact kp1 x2 (kb_set' (by assumption) (by first | assumption | omega)))
    (first | (go_at_call 12; (first | refine (HO2.out _ _ HN1.out).mono ?_ | refine (HO2.out _ _ HN2.out).mono ?_ | refine (HO2.out _ _ HN3.out).mono ?_); rintro e w3 ⟨v3, rfl, hset3, hb6, -⟩; have hk3 : Below w2.heap.size w2 w3 := kb_call hb6 (by assumption); (first | (have c3 := (hb6.cell (World.block_lt_of_cell? _ _ B1.out)).trans B1.out; have f3 := (hb6.frozen (World.block_lt_of_cell? _ _ B1.out)).trans B2.out) | (have c3 := (hb6.cell (World.block_lt_of_cell? _ _ B3.out)).trans B3.out; have f3 := (hb6.frozen (World.block_lt_of_cell? _ _ B3.out)).trans B4.out) | skip)) | (go_at_call 19; refine (Minus_any _ _ 8 2 _ _ _ (by omega) (by omega) (HS2.out.kp (by assumption)) (by first | assumption | exact IsSet.below (by assumption) ((Below.refl _ _).alloc (Nat.le_refl _) _) (Nat.le_refl _))).mono ?_; rintro e w4 ⟨v4, rfl, ⟨K4, p4, c4, rfl, k4, m4, a4, l4, hs4, s4⟩, hb7, hfr4⟩; have hfr := hfr4.at; have hk4 : Below w2.heap.size w2 w4 := kb_call hb7 (by assumption); (first | (have x4 := (hb7.cell (World.block_lt_of_cell? _ _ c3)).trans c3; have f4 := (hb7.frozen (World.block_lt_of_cell? _ _ c3)).trans f3; have hg4 := World.block_lt_of_cell? _ _ c3) | (have x4 := (hb7.cell (p := ⟨w3.heap.size, 0, none⟩) (by simp)).trans (new_cell w3 _ _); have f4 := (hb7.frozen (p := ⟨w3.heap.size, 0, none⟩) (by simp)).trans (new_unfrozen w3 _ _ 0); have hz4 := hk3.size) | skip)))
  rename_i hHeld
  have hTc := new_cell w4 (.slice p4 K4.length c4) 26
  have hTs := s4.below ((Below.refl _ _).alloc (Nat.le_refl _) (.cells #[.slice p4 K4.length c4] 26)) (Nat.le_refl _)
  generalize w4.alloc (.cells #[.slice p4 K4.length c4] 26) = T at *
  rotate_left 1
  rename_i hHeld
  obtain ⟨hTs, hTc⟩ := s4.put (v := .slice p4 K4.length c4) x4 (fun a ha => by have := hfr a ha; simp at this; omega)
  generalize w4.setCell ⟨w3.heap.size, 0, none⟩ (.slice p4 K4.length c4) = T at *
  rotate_left 1
  rename_i hHeld
  obtain ⟨hTs, hTc⟩ := s4.put (v := .slice p4 K4.length c4) x4 (fun a ha => by have := hfr a ha; omega)
  generalize w4.setCell ⟨w2.heap.size + 1, 0, none⟩ (.slice p4 K4.length c4) = T at *
  rotate_left 1
  rename_i hHeld
  obtain ⟨hTs, hTc⟩ := s4.put (v := .slice p4 K4.length c4) x4 (fun a ha => by have := hfr a ha; omega)
  generalize w4.setCell ⟨w2.heap.size, 0, none⟩ (.slice p4 K4.length c4) = T at *
  rotate_left 1
  all_goals
    obtain ⟨hTx, hTb⟩ := hHeld
    have HT : Hid (IsSet T 20 (fun d => hasB [(1, 3), (3, 5), (9, 9), (7, 8)] d && !hasB [(2, 4)] d) (.agg #[.slice p4 K4.length c4])) := Lib.hid ⟨K4, p4, c4, rfl, k4, m4, a4, l4, hs4, hTs⟩
    have HS3 := Lib.hid (HS2.out.below hTb (Nat.le_refl _))
    have HL3 := Lib.hid (HL.out.below hTb (Nat.le_refl _))
    have hb8 := hb5.trans (hTb.mono hb5.size)
    have HP := Lib.hid (Pieces_any 1 5 _ 3 [3, 1, 9] _ (by simp) (days_new T [3, 1, 9] 23))
    have hb9 := (Below.refl T.heap.size T).alloc (Nat.le_refl _) (.cells (dyC [3, 1, 9]).toArray 23)
    clear x2 HS2 hb5 HL HO2 HN1 HN2 HN3 hsz B1 B2 B3 B4 hset3 hb6 hk3 hb7 k4 m4 a4 l4 hs4 s4 hk4 hTs hfr4 hfr hTb
    go_wp2_with fail
    refine (HP.out).mono ?_
    rintro e w5 ⟨K5, q5, c5, rfl, -, h5, -, s5, hb10⟩
    obtain ⟨r, hr, rfl⟩ := h5 (by omega)
    obtain rfl : r = [3] := rise_one hr.1.cons.2 (by simp [Rise]) (fun x => by rw [hr.2]; simp; omega)
    have hb11 := hb9.trans (hb10.mono (by simp))
    have y1 := (hb11.cell (World.block_lt_of_cell? _ _ hTx)).trans hTx
    have y2 := (hb11.cell (World.block_lt_of_cell? _ _ hTc)).trans hTc
    have HT5 := Lib.hid (HT.out.below hb11 (Nat.le_refl _))
    have HS5 := Lib.hid (HS3.out.below hb11 (Nat.le_refl _))
    have hL5 := HL3.out.below hb11 (Nat.le_refl _)
    have hb12 := hb8.trans (hb11.mono hb8.size)
    rcases hL5 with h | ⟨b6, o6, rfl, hc6⟩
    · cases h
    rcases s5 with h | ⟨b7, o7, rfl, hc7⟩
    · cases h
    obtain ⟨u1, u2⟩ := hc6 0 (by simp)
    obtain ⟨u3, u4⟩ := hc7 1 (by decide)
    have u1' : w5.cell? ⟨b6, o6, none⟩ = some (.int .i64 1) := u1
    have u2' : w5.cell? ⟨b6, o6 + 1, none⟩ = some (.int .i64 5) := by simpa using u2
    have u3' : w5.cell? ⟨b7, o7 + 2, none⟩ = some (.int .i64 3) := u3
    have u4' : w5.cell? ⟨b7, o7 + 2 + 1, none⟩ = some (.int .i64 5) := u4
    have hl5 : (pcs 1 [3] 5).length = 2 := rfl
    rw [hl5]
    have hgs := guardSpan
    have hq1 : ∀ W, (binOp .eql 39 (.agg #[.int .i64 1, .int .i64 5]) (.agg #[.int .i64 1, .int .i64 5])).run Try.prog W = .ok (.bool true) W := fun W => by rw [eqlSpan]; rfl
    have hq2 : ∀ W, (binOp .eql 39 (.agg #[.int .i64 3, .int .i64 5]) (.agg #[.int .i64 3, .int .i64 5])).run Try.prog W = .ok (.bool true) W := fun W => by rw [eqlSpan]; rfl
    clear hc6 hc7 u1 u2 u3 u4 HP hb9 hb10 hb11 hTx hTc HT HS3 HL3 hb8 h5 hr hl5
    go_wp2_with fail
    refine (Days_any _ 8 _ _ (by omega) HS5.out).mono ?_
    rintro e w6 ⟨⟨K6, k6, m6, -, rfl⟩, hb13⟩
    obtain rfl : K6 = [(1, 5), (7, 8)] := canon_one k6 (by unfold Canon; simp) (fun d => by rw [m6 d, hasB_iff]; unfold Mem; simp; omega)
    have e6 : cut62 (dsum [(1, 5), (7, 8)]) = 5 := rfl
    rw [e6]
    have y1' := (hb13.cell (World.block_lt_of_cell? _ _ y1)).trans y1
    have y2' := (hb13.cell (World.block_lt_of_cell? _ _ y2)).trans y2
    have v3' := (hb13.cell (World.block_lt_of_cell? _ _ u3')).trans u3'
    have v4' := (hb13.cell (World.block_lt_of_cell? _ _ u4')).trans u4'
    have HT6 := Lib.hid (HT5.out.below hb13 (Nat.le_refl _))
    have HS6 := Lib.hid (HS5.out.below hb13 (Nat.le_refl _))
    have hb14 := hb12.trans (hb13.mono hb12.size)
    clear y1 y2 u3' u4' HT5 HS5 hb12 hb13 k6 m6 u1' u2'
    go_wp2_with fail
    refine (Has_any _ 8 _ _ _ (by omega) HS6.out).mono ?_
    rintro e w7 ⟨rfl, hb13⟩
    have e7 : hasB [(1, 3), (3, 5), (9, 9), (7, 8)] 7 = true := rfl
    rw [e7]
    have y1 := (hb13.cell (World.block_lt_of_cell? _ _ y1')).trans y1'
    have y2 := (hb13.cell (World.block_lt_of_cell? _ _ y2')).trans y2'
    have u3' := (hb13.cell (World.block_lt_of_cell? _ _ v3')).trans v3'
    have u4' := (hb13.cell (World.block_lt_of_cell? _ _ v4')).trans v4'
    have HT5 := Lib.hid (HT6.out.below hb13 (Nat.le_refl _))
    have HS5 := Lib.hid (HS6.out.below hb13 (Nat.le_refl _))
    have hb12 := hb14.trans (hb13.mono hb14.size)
    clear y1' y2' v3' v4' HT6 HS6 hb14 hb13
    go_wp2_with fail
    refine (Has_any _ 8 _ _ _ (by omega) HS5.out).mono ?_
    rintro e w8 ⟨rfl, hb13⟩
    have e8 : hasB [(1, 3), (3, 5), (9, 9), (7, 8)] 5 = false := rfl
    rw [e8]
    have y1' := (hb13.cell (World.block_lt_of_cell? _ _ y1)).trans y1
    have y2' := (hb13.cell (World.block_lt_of_cell? _ _ y2)).trans y2
    have v3' := (hb13.cell (World.block_lt_of_cell? _ _ u3')).trans u3'
    have v4' := (hb13.cell (World.block_lt_of_cell? _ _ u4')).trans u4'
    have HT6 := Lib.hid (HT5.out.below hb13 (Nat.le_refl _))
    have hb14 := hb12.trans (hb13.mono hb12.size)
    clear y1 y2 u3' u4' HT5 HS5 hb12 hb13
    go_wp2_with fail
    refine (All_any _ 20 _ _ (by omega) HT6.out).mono ?_
    rintro e w9 ⟨K9, q9, c9, rfl, k9, m9, -, -, -, hb13⟩
    obtain rfl : K9 = [(1, 2), (4, 5), (7, 8)] := canon_one k9 (by unfold Canon; simp) (fun d => by rw [m9 d]; simp [hasB, many, Mem]; omega)
    have u3' := (hb13.cell (World.block_lt_of_cell? _ _ v3')).trans v3'
    have u4' := (hb13.cell (World.block_lt_of_cell? _ _ v4')).trans v4'
    have hb12 := hb14.trans (hb13.mono hb14.size)
    clear y1' y2' v3' v4' HT6 hb14 hb13 k9 m9
    go_wp2
    go_ret
    exact ⟨rfl, hb12⟩

end Go.Proofs.Ytefcadngdcgpiaa
