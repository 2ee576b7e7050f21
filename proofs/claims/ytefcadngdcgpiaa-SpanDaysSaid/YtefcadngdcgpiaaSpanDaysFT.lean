/-
  What is proved: SpanDays returns true where the first set has not the day and the second one has it. Conditions: what came in lies in memory as the frame says.
-/
import Derived.Test.YtefcadngdcgpiaaSpW
import Derived.Test.YtefcadngdcgpiaaSpO
import Derived.Test.YtefcadngdcgpiaaFrameP
namespace Go.Proofs.Ytefcadngdcgpiaa
open Go Go.RowKit Go.Proofs

set_option linter.unusedSimpArgs false
set_option linter.unusedVariables false
set_option maxHeartbeats 16000000 in
set_option maxRecDepth 100000 in
theorem walkDaysFT (p : Option Addr) (n cp : Nat) (L : List Sp) (q : Option Addr) (m cq : Nat) (M : List Sp) (d : Int) (w : World) (hp : SpansArg w p n cp L) (hq : SpansArg w q m cq M) (hd : (Lit.int .i64 d).wf = true) (hA : hasB L d = false) (hB : hasB M d = true) :
    Calls Try.prog 4 #[.slice p n cp, .slice q m cq, .int .i64 d] w fun e w' => e = .returned (.bool true) ∧ Below w.heap.size w w' := by
  obtain ⟨rfl, hs1, h64a, -⟩ := hp
  obtain ⟨rfl, hs2, h64b, -⟩ := hq
  have H1 := Lib.hid hs1
  have H2 := Lib.hid hs2
  have HA := Lib.hid h64a
  have HB := Lib.hid h64b
  clear hs1 hs2 h64a h64b
  by_cases hbig : 40 < L.length ∨ 40 < M.length
  · have h2 : (40 : Int) < (L.length : Int) ∨ (¬ (40 : Int) < (L.length : Int) ∧ (40 : Int) < (M.length : Int)) := by omega
    clear hbig
    rcases h2 with d1 | ⟨d1, d2⟩
    all_goals
      go_enter Try.func4, Try.ntmps4
      go_wp2_with fail
      refine (awake_any _).mono ?_
      rintro e w1 ⟨rfl, hb1⟩
      go_wp2
      go_ret
      exact ⟨rfl, hb1⟩
  have n1 : L.length ≤ 40 := by omega
  have n2 : M.length ≤ 40 := by omega
  clear hbig
  have d1 : ¬ (40 : Int) < (L.length : Int) := by omega
  have d2 : ¬ (40 : Int) < (M.length : Int) := by omega
  go_enter Try.func4, Try.ntmps4
  go_wp2_with fail
  refine (awake_any _).mono ?_
  rintro e w1 ⟨rfl, hb1⟩
  have H1b := Lib.hid (H1.out.below hb1 (Nat.le_refl _))
  have H2b := Lib.hid (H2.out.below hb1 (Nat.le_refl _))
  go_wp2_with fail
  refine (Of_set p cp L w1 (by omega) HA.out H1b.out).mono ?_
  rintro e w2 ⟨v, rfl, ⟨K1, p1, c1, rfl, k1⟩, hb2, -⟩
  have H2c := Lib.hid (H2b.out.below hb2 (Nat.le_refl _))
  have HK1 := Lib.hid k1
  clear k1
  go_wp2_with fail
  refine (Of_set q cq M w2 (by omega) HB.out H2c.out).mono ?_
  rintro e w3 ⟨v, rfl, ⟨K2, p2, c2, rfl, k2⟩, hb3, -⟩
  have HK2 := Lib.hid k2
  clear k2
  obtain ⟨W4, hW4⟩ : ∃ W4, W4 = (w3.alloc (.cells #[.slice p1 K1.length c1] 26)).alloc (.cells #[.slice p2 K2.length c2] 26) := ⟨_, rfl⟩
  have hz3 : (w3.alloc (.cells #[.slice p1 K1.length c1] 26)).heap.size = w3.heap.size + 1 := by simp
  have hb4 : Below w3.heap.size w3 W4 := by rw [hW4]; exact ((Below.refl _ _).alloc (Nat.le_refl _) _).alloc (by simp) _
  have x1 : W4.cell? ⟨w3.heap.size, 0, none⟩ = some (.slice p1 K1.length c1) := by rw [hW4, World.cell?_alloc_lt _ _ _ (by simp)]; exact new_cell _ _ _
  have x2 : W4.cell? ⟨w3.heap.size + 1, 0, none⟩ = some (.slice p2 K2.length c2) := by rw [hW4, ← hz3]; exact new_cell _ _ _
  have hb5 := (hb1.trans (hb2.mono hb1.size))
  have hb6 := hb5.trans (hb3.mono hb5.size)
  have hb7 := hb6.trans (hb4.mono hb6.size)
  have hb8 := hb3.trans (hb4.mono hb3.size)
  have HS : Hid (IsSet W4 (2 * L.length) (fun d => hasB L d) (.agg #[.slice p1 K1.length c1])) := Lib.hid (IsSet.below ⟨K1, p1, c1, rfl, HK1.out⟩ hb8 (Nat.le_refl _))
  have HT : Hid (IsSet W4 (2 * M.length) (fun d => hasB M d) (.agg #[.slice p2 K2.length c2])) := Lib.hid (IsSet.below ⟨K2, p2, c2, rfl, HK2.out⟩ hb4 (Nat.le_refl _))
  have HI := Lib.hid (H1.out.below hb7 (Nat.le_refl _))
  clear H1 H2 H1b H2b H2c HA HB HK1 HK2 hz3 hb1 hb2 hb3 hb4 hb5 hb6 hb8
  have HFT : Hid (hasB (L.take L.length) d = hasB L d) := Lib.hid (by rw [List.take_length])
  have HF0 : Hid (hasB (L.take 0) d = false) := Lib.hid rfl
  have HST : Hid (∀ k, k < L.length → hasB (L.take (k + 1)) d = (hasB (L.take k) d || inB (L.getD k (0, 0)) d)) := Lib.hid (fun k hk => hasB_take hk)
  go_wp2
  rw [← hW4]
  clear hW4
  go_loopw [9, 10] (fun bv iv wr => ∃ (k : Nat) (b : Bool), k ≤ L.length ∧ iv = .int .i64 k ∧ bv = .bool b ∧ Hid (b = hasB (L.take k) d) ∧ wr = W4) (fun _ iv _ => L.length - (RowKit.intOf iv).toNat)
  case atStart => exact ⟨0, false, by omega, rfl, rfl, HF0, rfl⟩
  case round =>
    obtain ⟨k, b, hk, rfl, rfl, HBK, rfl⟩ := hrel
    by_cases hlt : k < L.length
    · rcases HI.out with h | ⟨bl, o, rfl, hc⟩
      · rw [h] at hlt; simp at hlt
      obtain ⟨a1, a2⟩ := hc k hlt
      have i1 : (k : Int) < (L.length : Int) := by omega
      have hst := HST.out k hlt
      rw [← HBK.out] at hst
      clear hc
      generalize L.getD k (0, 0) = s at *
      obtain ⟨x, y⟩ := s
      dsimp only at a1 a2
      cases b
      · by_cases e1 : x ≤ d
        · by_cases e2 : d < y
          · have HN : Hid (true = hasB (L.take (k + 1)) d) := Lib.hid (by rw [hst]; simp [inB, e1, e2])
            clear hst
            go_wp2
            exact ⟨⟨k + 1, true, by omega, by go_num, rfl, HN, trivial⟩, by simp [RowKit.intOf]; omega⟩
          · have HN : Hid (false = hasB (L.take (k + 1)) d) := Lib.hid (by rw [hst]; simp [inB, e2])
            clear hst
            go_wp2
            exact ⟨⟨k + 1, false, by omega, by go_num, rfl, HN, trivial⟩, by simp [RowKit.intOf]; omega⟩
        · have HN : Hid (false = hasB (L.take (k + 1)) d) := Lib.hid (by rw [hst]; simp [inB, e1])
          clear hst
          go_wp2
          exact ⟨⟨k + 1, false, by omega, by go_num, rfl, HN, trivial⟩, by simp [RowKit.intOf]; omega⟩
      · have HN : Hid (true = hasB (L.take (k + 1)) d) := Lib.hid (by rw [hst]; simp)
        clear hst a1 a2
        go_wp2
        exact ⟨⟨k + 1, true, by omega, by go_num, rfl, HN, trivial⟩, by simp [RowKit.intOf]; omega⟩
    · obtain rfl : k = L.length := by omega
      have hbe : b = hasB L d := by rw [HBK.out, HFT.out]
      clear HBK HFT HF0 HST HI hk
      rw [hA] at hbe
      subst hbe
      have hU : (hasB L d || hasB M d) = true := by rw [hA, hB]; rfl
      have hM : (hasB L d && hasB M d) = false := by rw [hA, hB]; rfl
      have hD : (hasB L d && !hasB M d) = false := by rw [hA, hB]; rfl
      go_wp2
      refine wp_region_held_drew (S := fun w' => (w'.cell? ⟨w3.heap.size, 0, none⟩ = some (.slice p1 K1.length c1) ∧ w'.cell? ⟨w3.heap.size + 1, 0, none⟩ = some (.slice p2 K2.length c2)) ∧ Below wr.heap.size wr w') (by kernel_rfl) (kp2 x1 x2 kb_drew) (fun hHeld => ?_)
      refine wpAnyH_take (i := 0) (oi := _) (v := ?_) rfl (by kernel_rfl) (by kernel_rfl) (by kernel_rfl) (fun _ _ _ h => h) (Or.inl ⟨by kernel_rfl, ?_⟩) (by assumption) ?_
      rotate_left 1
      · intro w hSw
        (try dsimp only at hSw)
        go_simp
        all_goals (with_reducible rfl)
      try simp only [Act.put, List.setIfInBounds_toArray, List.set_cons_zero, List.set_cons_succ]
      refine wpAnyH_take (i := 1) (oi := _) (v := ?_) rfl (by kernel_rfl) (by kernel_rfl) (by kernel_rfl) (fun _ _ _ h => h) (Or.inl ⟨by kernel_rfl, ?_⟩) (by assumption) ?_
      rotate_left 1
      · intro w hSw
        (try dsimp only at hSw)
        go_simp
        all_goals (with_reducible rfl)
      try simp only [Act.put, List.setIfInBounds_toArray, List.set_cons_zero, List.set_cons_succ]
      refine wpAnyH_take (i := 3) (oi := _) (v := ?_) rfl (by kernel_rfl) (by kernel_rfl) (by kernel_rfl) (fun _ _ _ h => h) (Or.inl ⟨by kernel_rfl, ?_⟩) (by assumption) ?_
      rotate_left 1
      · intro w hSw
        (try dsimp only at hSw)
        go_simp
        all_goals (with_reducible rfl)
      try simp only [Act.put, List.setIfInBounds_toArray, List.set_cons_zero, List.set_cons_succ]
      refine wpAnyH_ready (rs := [2]) (by kernel_rfl) (by simp) ?_
      refine AllReadyH.cons (o := _) rfl (fun K hK => ?_) AllReadyH.nil
      go_simp
      first | (go_at_call 20; refine (HasK _ (by first | assumption | exact HS.out.kp (by assumption) | exact HT.out.kp (by assumption) | exact IsSet.none _) (by omega) (by first | exact hA | exact hB | exact hU | exact hM | exact hD | rfl)).mono ?_; rintro e wx ⟨rfl, hbx⟩; have hkx : Below wr.heap.size wr wx := kb_call hbx (by assumption)) | (go_at_call 16; refine (UnionK (HS.out.kp (by assumption)) (HT.out.kp (by assumption)) (by omega) (by omega)).mono ?_; rintro e wx ⟨vx, rfl, hsx, hbx, -⟩; have hkx : Below wr.heap.size wr wx := kb_call hbx (by assumption)) | (go_at_call 18; refine (MeetK (HS.out.kp (by assumption)) (HT.out.kp (by assumption)) (by omega) (by omega)).mono ?_; rintro e wx ⟨vx, rfl, hsx, hbx, -⟩; have hkx : Below wr.heap.size wr wx := kb_call hbx (by assumption)) | (go_at_call 19; refine (MinusK (HS.out.kp (by assumption)) (HT.out.kp (by assumption)) (by omega) (by omega)).mono ?_; rintro e wx ⟨vx, rfl, hsx, hbx, -⟩; have hkx : Below wr.heap.size wr wx := kb_call hbx (by assumption))
      refine hK.out _ _ (kp2 x1 x2 (by assumption)) (fun hHeld => ?_)
      clear hK K
      try simp only [Act.put, List.setIfInBounds_toArray, List.set_cons_zero, List.set_cons_succ]
      refine wpAnyH_take (i := 4) (oi := _) (v := ?_) rfl (by kernel_rfl) (by kernel_rfl) (by kernel_rfl) (fun _ _ _ h => h) (Or.inl ⟨by kernel_rfl, ?_⟩) (by assumption) ?_
      rotate_left 1
      · intro w hSw
        (try dsimp only at hSw)
        go_simp
        all_goals (with_reducible rfl)
      try simp only [Act.put, List.setIfInBounds_toArray, List.set_cons_zero, List.set_cons_succ]
      refine wpAnyH_take (i := 5) (oi := _) (v := ?_) rfl (by kernel_rfl) (by kernel_rfl) (by kernel_rfl) (fun _ _ _ h => h) (Or.inl ⟨by kernel_rfl, ?_⟩) (by assumption) ?_
      rotate_left 1
      · intro w hSw
        (try dsimp only at hSw)
        go_simp
        all_goals (with_reducible rfl)
      try simp only [Act.put, List.setIfInBounds_toArray, List.set_cons_zero, List.set_cons_succ]
      refine wpAnyH_take (i := 6) (oi := _) (v := ?_) rfl (by kernel_rfl) (by kernel_rfl) (by kernel_rfl) (fun _ _ _ h => h) (Or.inl ⟨by kernel_rfl, ?_⟩) (by assumption) ?_
      rotate_left 1
      · intro w hSw
        (try dsimp only at hSw)
        go_simp
        all_goals (with_reducible rfl)
      try simp only [Act.put, List.setIfInBounds_toArray, List.set_cons_zero, List.set_cons_succ]
      refine wpAnyH_take (i := 7) (oi := _) (v := ?_) rfl (by kernel_rfl) (by kernel_rfl) (by kernel_rfl) (fun _ _ _ h => h) (Or.inl ⟨by kernel_rfl, ?_⟩) (by assumption) ?_
      rotate_left 1
      · intro w hSw
        (try dsimp only at hSw)
        go_simp
        all_goals (with_reducible rfl)
      try simp only [Act.put, List.setIfInBounds_toArray, List.set_cons_zero, List.set_cons_succ]
      refine wpAnyH_take (i := 9) (oi := _) (v := ?_) rfl (by kernel_rfl) (by kernel_rfl) (by kernel_rfl) (fun _ _ _ h => h) (Or.inl ⟨by kernel_rfl, ?_⟩) (by assumption) ?_
      rotate_left 1
      · intro w hSw
        (try dsimp only at hSw)
        go_simp
        all_goals (with_reducible rfl)
      try simp only [Act.put, List.setIfInBounds_toArray, List.set_cons_zero, List.set_cons_succ]
      refine wpAnyH_take (i := 11) (oi := _) (v := ?_) rfl (by kernel_rfl) (by kernel_rfl) (by kernel_rfl) (fun _ _ _ h => h) (Or.inl ⟨by kernel_rfl, ?_⟩) (by assumption) ?_
      rotate_left 1
      · intro w hSw
        (try dsimp only at hSw)
        go_simp
        all_goals (with_reducible rfl)
      try simp only [Act.put, List.setIfInBounds_toArray, List.set_cons_zero, List.set_cons_succ]
      refine wpAnyH_take (i := 12) (oi := _) (v := ?_) rfl (by kernel_rfl) (by kernel_rfl) (by kernel_rfl) (fun _ _ _ h => h) (Or.inl ⟨by kernel_rfl, ?_⟩) (by assumption) ?_
      rotate_left 1
      · intro w hSw
        (try dsimp only at hSw)
        go_simp
        all_goals (with_reducible rfl)
      try simp only [Act.put, List.setIfInBounds_toArray, List.set_cons_zero, List.set_cons_succ]
      refine wpAnyH_ready (rs := [8]) (by kernel_rfl) (by simp) ?_
      refine AllReadyH.cons (o := _) rfl (fun K hK => ?_) AllReadyH.nil
      go_simp
      first | (go_at_call 20; refine (HasK _ (by first | assumption | exact HS.out.kp (by assumption) | exact HT.out.kp (by assumption) | exact IsSet.none _) (by omega) (by first | exact hA | exact hB | exact hU | exact hM | exact hD | rfl)).mono ?_; rintro e wx ⟨rfl, hbx⟩; have hkx : Below wr.heap.size wr wx := kb_call hbx (by assumption)) | (go_at_call 16; refine (UnionK (HS.out.kp (by assumption)) (HT.out.kp (by assumption)) (by omega) (by omega)).mono ?_; rintro e wx ⟨vx, rfl, hsx, hbx, -⟩; have hkx : Below wr.heap.size wr wx := kb_call hbx (by assumption)) | (go_at_call 18; refine (MeetK (HS.out.kp (by assumption)) (HT.out.kp (by assumption)) (by omega) (by omega)).mono ?_; rintro e wx ⟨vx, rfl, hsx, hbx, -⟩; have hkx : Below wr.heap.size wr wx := kb_call hbx (by assumption)) | (go_at_call 19; refine (MinusK (HS.out.kp (by assumption)) (HT.out.kp (by assumption)) (by omega) (by omega)).mono ?_; rintro e wx ⟨vx, rfl, hsx, hbx, -⟩; have hkx : Below wr.heap.size wr wx := kb_call hbx (by assumption))
      refine hK.out _ _ (kp2 x1 x2 (by assumption)) (fun hHeld => ?_)
      clear hK K
      try simp only [Act.put, List.setIfInBounds_toArray, List.set_cons_zero, List.set_cons_succ]
      refine wpAnyH_ready (rs := [10]) (by kernel_rfl) (by simp) ?_
      refine AllReadyH.cons (o := _) rfl (fun K hK => ?_) AllReadyH.nil
      go_simp
      first | (go_at_call 20; refine (HasK _ (by first | assumption | exact HS.out.kp (by assumption) | exact HT.out.kp (by assumption) | exact IsSet.none _) (by omega) (by first | exact hA | exact hB | exact hU | exact hM | exact hD | rfl)).mono ?_; rintro e wx ⟨rfl, hbx⟩; have hkx : Below wr.heap.size wr wx := kb_call hbx (by assumption)) | (go_at_call 16; refine (UnionK (HS.out.kp (by assumption)) (HT.out.kp (by assumption)) (by omega) (by omega)).mono ?_; rintro e wx ⟨vx, rfl, hsx, hbx, -⟩; have hkx : Below wr.heap.size wr wx := kb_call hbx (by assumption)) | (go_at_call 18; refine (MeetK (HS.out.kp (by assumption)) (HT.out.kp (by assumption)) (by omega) (by omega)).mono ?_; rintro e wx ⟨vx, rfl, hsx, hbx, -⟩; have hkx : Below wr.heap.size wr wx := kb_call hbx (by assumption)) | (go_at_call 19; refine (MinusK (HS.out.kp (by assumption)) (HT.out.kp (by assumption)) (by omega) (by omega)).mono ?_; rintro e wx ⟨vx, rfl, hsx, hbx, -⟩; have hkx : Below wr.heap.size wr wx := kb_call hbx (by assumption))
      refine hK.out _ _ (kp2 x1 x2 (by assumption)) (fun hHeld => ?_)
      clear hK K
      try simp only [Act.put, List.setIfInBounds_toArray, List.set_cons_zero, List.set_cons_succ]
      refine wpAnyH_ready (rs := [13]) (by kernel_rfl) (by simp) ?_
      refine AllReadyH.cons (o := _) rfl (fun K hK => ?_) AllReadyH.nil
      go_simp
      first | (go_at_call 20; refine (HasK _ (by first | assumption | exact HS.out.kp (by assumption) | exact HT.out.kp (by assumption) | exact IsSet.none _) (by omega) (by first | exact hA | exact hB | exact hU | exact hM | exact hD | rfl)).mono ?_; rintro e wx ⟨rfl, hbx⟩; have hkx : Below wr.heap.size wr wx := kb_call hbx (by assumption)) | (go_at_call 16; refine (UnionK (HS.out.kp (by assumption)) (HT.out.kp (by assumption)) (by omega) (by omega)).mono ?_; rintro e wx ⟨vx, rfl, hsx, hbx, -⟩; have hkx : Below wr.heap.size wr wx := kb_call hbx (by assumption)) | (go_at_call 18; refine (MeetK (HS.out.kp (by assumption)) (HT.out.kp (by assumption)) (by omega) (by omega)).mono ?_; rintro e wx ⟨vx, rfl, hsx, hbx, -⟩; have hkx : Below wr.heap.size wr wx := kb_call hbx (by assumption)) | (go_at_call 19; refine (MinusK (HS.out.kp (by assumption)) (HT.out.kp (by assumption)) (by omega) (by omega)).mono ?_; rintro e wx ⟨vx, rfl, hsx, hbx, -⟩; have hkx : Below wr.heap.size wr wx := kb_call hbx (by assumption))
      refine hK.out _ _ (kp2 x1 x2 (by assumption)) (fun hHeld => ?_)
      clear hK K
      try simp only [Act.put, List.setIfInBounds_toArray, List.set_cons_zero, List.set_cons_succ]
      refine wpAnyH_take (i := 14) (oi := _) (v := ?_) rfl (by kernel_rfl) (by kernel_rfl) (by kernel_rfl) (fun _ _ _ h => h) (Or.inl ⟨by kernel_rfl, ?_⟩) (by assumption) ?_
      rotate_left 1
      · intro w hSw
        (try dsimp only at hSw)
        go_simp
        all_goals (with_reducible rfl)
      try simp only [Act.put, List.setIfInBounds_toArray, List.set_cons_zero, List.set_cons_succ]
      refine wpAnyH_take (i := 15) (oi := _) (v := ?_) rfl (by kernel_rfl) (by kernel_rfl) (by kernel_rfl) (fun _ _ _ h => h) (Or.inl ⟨by kernel_rfl, ?_⟩) (by assumption) ?_
      rotate_left 1
      · intro w hSw
        (try dsimp only at hSw)
        go_simp
        all_goals (with_reducible rfl)
      try simp only [Act.put, List.setIfInBounds_toArray, List.set_cons_zero, List.set_cons_succ]
      refine wpAnyH_take (i := 16) (oi := _) (v := ?_) rfl (by kernel_rfl) (by kernel_rfl) (by kernel_rfl) (fun _ _ _ h => h) (Or.inl ⟨by kernel_rfl, ?_⟩) (by assumption) ?_
      rotate_left 1
      · intro w hSw
        (try dsimp only at hSw)
        go_simp
        all_goals (with_reducible rfl)
      try simp only [Act.put, List.setIfInBounds_toArray, List.set_cons_zero, List.set_cons_succ]
      refine wpAnyH_ready (rs := [17]) (by kernel_rfl) (by simp) ?_
      refine AllReadyH.cons (o := _) rfl (fun K hK => ?_) AllReadyH.nil
      go_simp
      first | (go_at_call 20; refine (HasK _ (by first | assumption | exact HS.out.kp (by assumption) | exact HT.out.kp (by assumption) | exact IsSet.none _) (by omega) (by first | exact hA | exact hB | exact hU | exact hM | exact hD | rfl)).mono ?_; rintro e wx ⟨rfl, hbx⟩; have hkx : Below wr.heap.size wr wx := kb_call hbx (by assumption)) | (go_at_call 16; refine (UnionK (HS.out.kp (by assumption)) (HT.out.kp (by assumption)) (by omega) (by omega)).mono ?_; rintro e wx ⟨vx, rfl, hsx, hbx, -⟩; have hkx : Below wr.heap.size wr wx := kb_call hbx (by assumption)) | (go_at_call 18; refine (MeetK (HS.out.kp (by assumption)) (HT.out.kp (by assumption)) (by omega) (by omega)).mono ?_; rintro e wx ⟨vx, rfl, hsx, hbx, -⟩; have hkx : Below wr.heap.size wr wx := kb_call hbx (by assumption)) | (go_at_call 19; refine (MinusK (HS.out.kp (by assumption)) (HT.out.kp (by assumption)) (by omega) (by omega)).mono ?_; rintro e wx ⟨vx, rfl, hsx, hbx, -⟩; have hkx : Below wr.heap.size wr wx := kb_call hbx (by assumption))
      refine hK.out _ _ (kp2 x1 x2 (by assumption)) (fun hHeld => ?_)
      clear hK K
      try simp only [Act.put, List.setIfInBounds_toArray, List.set_cons_zero, List.set_cons_succ]
      refine wpAnyH_take (i := 18) (oi := _) (v := ?_) rfl (by kernel_rfl) (by kernel_rfl) (by kernel_rfl) (fun _ _ _ h => h) (Or.inl ⟨by kernel_rfl, ?_⟩) (by assumption) ?_
      rotate_left 1
      · intro w hSw
        (try dsimp only at hSw)
        go_simp
        all_goals (with_reducible rfl)
      try simp only [Act.put, List.setIfInBounds_toArray, List.set_cons_zero, List.set_cons_succ]
      refine wpAnyH_take (i := 19) (oi := _) (v := ?_) rfl (by kernel_rfl) (by kernel_rfl) (by kernel_rfl) (fun _ _ _ h => h) (Or.inl ⟨by kernel_rfl, ?_⟩) (by assumption) ?_
      rotate_left 1
      · intro w hSw
        (try dsimp only at hSw)
        go_simp
        all_goals (with_reducible rfl)
      try simp only [Act.put, List.setIfInBounds_toArray, List.set_cons_zero, List.set_cons_succ]
      refine wpAnyH_take (i := 20) (oi := _) (v := ?_) rfl (by kernel_rfl) (by kernel_rfl) (by kernel_rfl) (fun _ _ _ h => h) (Or.inl ⟨by kernel_rfl, ?_⟩) (by assumption) ?_
      rotate_left 1
      · intro w hSw
        (try dsimp only at hSw)
        go_simp
        all_goals (with_reducible rfl)
      try simp only [Act.put, List.setIfInBounds_toArray, List.set_cons_zero, List.set_cons_succ]
      refine wpAnyH_take (i := 21) (oi := _) (v := ?_) rfl (by kernel_rfl) (by kernel_rfl) (by kernel_rfl) (fun _ _ _ h => h) (Or.inl ⟨by kernel_rfl, ?_⟩) (by assumption) ?_
      rotate_left 1
      · intro w hSw
        (try dsimp only at hSw)
        go_simp
        all_goals (with_reducible rfl)
      try simp only [Act.put, List.setIfInBounds_toArray, List.set_cons_zero, List.set_cons_succ]
      refine wpAnyH_take (i := 22) (oi := _) (v := ?_) rfl (by kernel_rfl) (by kernel_rfl) (by kernel_rfl) (fun _ _ _ h => h) (Or.inl ⟨by kernel_rfl, ?_⟩) (by assumption) ?_
      rotate_left 1
      · intro w hSw
        (try dsimp only at hSw)
        go_simp
        all_goals (with_reducible rfl)
      try simp only [Act.put, List.setIfInBounds_toArray, List.set_cons_zero, List.set_cons_succ]
      refine wpAnyH_take (i := 23) (oi := _) (v := ?_) rfl (by kernel_rfl) (by kernel_rfl) (by kernel_rfl) (fun _ _ _ h => h) (Or.inl ⟨by kernel_rfl, ?_⟩) (by assumption) ?_
      rotate_left 1
      · intro w hSw
        (try dsimp only at hSw)
        go_simp
        all_goals (with_reducible rfl)
      try simp only [Act.put, List.setIfInBounds_toArray, List.set_cons_zero, List.set_cons_succ]
      refine wpAnyH_take (i := 25) (oi := _) (v := ?_) rfl (by kernel_rfl) (by kernel_rfl) (by kernel_rfl) (fun _ _ _ h => h) (Or.inl ⟨by kernel_rfl, ?_⟩) (by assumption) ?_
      rotate_left 1
      · intro w hSw
        (try dsimp only at hSw)
        go_simp
        all_goals (with_reducible rfl)
      try simp only [Act.put, List.setIfInBounds_toArray, List.set_cons_zero, List.set_cons_succ]
      refine wpAnyH_take (i := 27) (oi := _) (v := ?_) rfl (by kernel_rfl) (by kernel_rfl) (by kernel_rfl) (fun _ _ _ h => h) (Or.inl ⟨by kernel_rfl, ?_⟩) (by assumption) ?_
      rotate_left 1
      · intro w hSw
        (try dsimp only at hSw)
        go_simp
        all_goals (with_reducible rfl)
      try simp only [Act.put, List.setIfInBounds_toArray, List.set_cons_zero, List.set_cons_succ]
      refine wpAnyH_take (i := 28) (oi := _) (v := ?_) rfl (by kernel_rfl) (by kernel_rfl) (by kernel_rfl) (fun _ _ _ h => h) (Or.inl ⟨by kernel_rfl, ?_⟩) (by assumption) ?_
      rotate_left 1
      · intro w hSw
        (try dsimp only at hSw)
        go_simp
        all_goals (with_reducible rfl)
      try simp only [Act.put, List.setIfInBounds_toArray, List.set_cons_zero, List.set_cons_succ]
      refine wpAnyH_ready (rs := [24]) (by kernel_rfl) (by simp) ?_
      refine AllReadyH.cons (o := _) rfl (fun K hK => ?_) AllReadyH.nil
      go_simp
      first | (go_at_call 20; refine (HasK _ (by first | assumption | exact HS.out.kp (by assumption) | exact HT.out.kp (by assumption) | exact IsSet.none _) (by omega) (by first | exact hA | exact hB | exact hU | exact hM | exact hD | rfl)).mono ?_; rintro e wx ⟨rfl, hbx⟩; have hkx : Below wr.heap.size wr wx := kb_call hbx (by assumption)) | (go_at_call 16; refine (UnionK (HS.out.kp (by assumption)) (HT.out.kp (by assumption)) (by omega) (by omega)).mono ?_; rintro e wx ⟨vx, rfl, hsx, hbx, -⟩; have hkx : Below wr.heap.size wr wx := kb_call hbx (by assumption)) | (go_at_call 18; refine (MeetK (HS.out.kp (by assumption)) (HT.out.kp (by assumption)) (by omega) (by omega)).mono ?_; rintro e wx ⟨vx, rfl, hsx, hbx, -⟩; have hkx : Below wr.heap.size wr wx := kb_call hbx (by assumption)) | (go_at_call 19; refine (MinusK (HS.out.kp (by assumption)) (HT.out.kp (by assumption)) (by omega) (by omega)).mono ?_; rintro e wx ⟨vx, rfl, hsx, hbx, -⟩; have hkx : Below wr.heap.size wr wx := kb_call hbx (by assumption))
      refine hK.out _ _ (kp2 x1 x2 (by assumption)) (fun hHeld => ?_)
      clear hK K
      try simp only [Act.put, List.setIfInBounds_toArray, List.set_cons_zero, List.set_cons_succ]
      refine wpAnyH_ready (rs := [26]) (by kernel_rfl) (by simp) ?_
      refine AllReadyH.cons (o := _) rfl (fun K hK => ?_) AllReadyH.nil
      go_simp
      first | (go_at_call 20; refine (HasK _ (by first | assumption | exact HS.out.kp (by assumption) | exact HT.out.kp (by assumption) | exact IsSet.none _) (by omega) (by first | exact hA | exact hB | exact hU | exact hM | exact hD | rfl)).mono ?_; rintro e wx ⟨rfl, hbx⟩; have hkx : Below wr.heap.size wr wx := kb_call hbx (by assumption)) | (go_at_call 16; refine (UnionK (HS.out.kp (by assumption)) (HT.out.kp (by assumption)) (by omega) (by omega)).mono ?_; rintro e wx ⟨vx, rfl, hsx, hbx, -⟩; have hkx : Below wr.heap.size wr wx := kb_call hbx (by assumption)) | (go_at_call 18; refine (MeetK (HS.out.kp (by assumption)) (HT.out.kp (by assumption)) (by omega) (by omega)).mono ?_; rintro e wx ⟨vx, rfl, hsx, hbx, -⟩; have hkx : Below wr.heap.size wr wx := kb_call hbx (by assumption)) | (go_at_call 19; refine (MinusK (HS.out.kp (by assumption)) (HT.out.kp (by assumption)) (by omega) (by omega)).mono ?_; rintro e wx ⟨vx, rfl, hsx, hbx, -⟩; have hkx : Below wr.heap.size wr wx := kb_call hbx (by assumption))
      refine hK.out _ _ (kp2 x1 x2 (by assumption)) (fun hHeld => ?_)
      clear hK K
      try simp only [Act.put, List.setIfInBounds_toArray, List.set_cons_zero, List.set_cons_succ]
      refine wpAnyH_ready (rs := [29]) (by kernel_rfl) (by simp) ?_
      refine AllReadyH.cons (o := _) rfl (fun K hK => ?_) AllReadyH.nil
      go_simp
      first | (go_at_call 20; refine (HasK _ (by first | assumption | exact HS.out.kp (by assumption) | exact HT.out.kp (by assumption) | exact IsSet.none _) (by omega) (by first | exact hA | exact hB | exact hU | exact hM | exact hD | rfl)).mono ?_; rintro e wx ⟨rfl, hbx⟩; have hkx : Below wr.heap.size wr wx := kb_call hbx (by assumption)) | (go_at_call 16; refine (UnionK (HS.out.kp (by assumption)) (HT.out.kp (by assumption)) (by omega) (by omega)).mono ?_; rintro e wx ⟨vx, rfl, hsx, hbx, -⟩; have hkx : Below wr.heap.size wr wx := kb_call hbx (by assumption)) | (go_at_call 18; refine (MeetK (HS.out.kp (by assumption)) (HT.out.kp (by assumption)) (by omega) (by omega)).mono ?_; rintro e wx ⟨vx, rfl, hsx, hbx, -⟩; have hkx : Below wr.heap.size wr wx := kb_call hbx (by assumption)) | (go_at_call 19; refine (MinusK (HS.out.kp (by assumption)) (HT.out.kp (by assumption)) (by omega) (by omega)).mono ?_; rintro e wx ⟨vx, rfl, hsx, hbx, -⟩; have hkx : Below wr.heap.size wr wx := kb_call hbx (by assumption))
      refine hK.out _ _ (kp2 x1 x2 (by assumption)) (fun hHeld => ?_)
      clear hK K
      try simp only [Act.put, List.setIfInBounds_toArray, List.set_cons_zero, List.set_cons_succ]
      refine wpAnyH_take (i := 30) (oi := _) (v := ?_) rfl (by kernel_rfl) (by kernel_rfl) (by kernel_rfl) (fun _ _ _ h => h) (Or.inl ⟨by kernel_rfl, ?_⟩) (by assumption) ?_
      rotate_left 1
      · intro w hSw
        (try dsimp only at hSw)
        go_simp
        all_goals (with_reducible rfl)
      try simp only [Act.put, List.setIfInBounds_toArray, List.set_cons_zero, List.set_cons_succ]
      refine wpAnyH_take (i := 31) (oi := _) (v := undef) rfl (by kernel_rfl) (by kernel_rfl) (by kernel_rfl) (fun _ _ _ h => h) (Or.inr ⟨by kernel_rfl, rfl⟩) (by assumption) ?_
      try simp only [Act.put, List.setIfInBounds_toArray, List.set_cons_zero, List.set_cons_succ]
      refine wpAnyH_take (i := 32) (oi := _) (v := undef) rfl (by kernel_rfl) (by kernel_rfl) (by kernel_rfl) (fun _ _ _ h => h) (Or.inr ⟨by kernel_rfl, rfl⟩) (by assumption) ?_
      try simp only [Act.put, List.setIfInBounds_toArray, List.set_cons_zero, List.set_cons_succ]
      refine wpAnyH_take (i := 33) (oi := _) (v := undef) rfl (by kernel_rfl) (by kernel_rfl) (by kernel_rfl) (fun _ _ _ h => h) (Or.inr ⟨by kernel_rfl, rfl⟩) (by assumption) ?_
      try simp only [Act.put, List.setIfInBounds_toArray, List.set_cons_zero, List.set_cons_succ]
      refine wpAnyH_take (i := 34) (oi := _) (v := ?_) rfl (by kernel_rfl) (by kernel_rfl) (by kernel_rfl) (fun _ _ _ h => h) (Or.inl ⟨by kernel_rfl, ?_⟩) (by assumption) ?_
      rotate_left 1
      · intro w hSw
        (try dsimp only at hSw)
        go_simp
        all_goals (with_reducible rfl)
      try simp only [Act.put, List.setIfInBounds_toArray, List.set_cons_zero, List.set_cons_succ]
      refine wpAnyH_take (i := 35) (oi := _) (v := ?_) rfl (by kernel_rfl) (by kernel_rfl) (by kernel_rfl) (fun _ _ _ h => h) (Or.inl ⟨by kernel_rfl, ?_⟩) (by assumption) ?_
      rotate_left 1
      · intro w hSw
        (try dsimp only at hSw)
        go_simp
        all_goals (with_reducible rfl)
      try simp only [Act.put, List.setIfInBounds_toArray, List.set_cons_zero, List.set_cons_succ]
      refine wpAnyH_take (i := 36) (oi := _) (v := ?_) rfl (by kernel_rfl) (by kernel_rfl) (by kernel_rfl) (fun _ _ _ h => h) (Or.inl ⟨by kernel_rfl, ?_⟩) (by assumption) ?_
      rotate_left 1
      · intro w hSw
        (try dsimp only at hSw)
        go_simp
        all_goals (with_reducible rfl)
      try simp only [Act.put, List.setIfInBounds_toArray, List.set_cons_zero, List.set_cons_succ]
      refine wpAnyH_take (i := 37) (oi := _) (v := ?_) rfl (by kernel_rfl) (by kernel_rfl) (by kernel_rfl) (fun _ _ _ h => h) (Or.inl ⟨by kernel_rfl, ?_⟩) (by assumption) ?_
      rotate_left 1
      · intro w hSw
        (try dsimp only at hSw)
        go_simp
        all_goals (with_reducible rfl)
      try simp only [Act.put, List.setIfInBounds_toArray, List.set_cons_zero, List.set_cons_succ]
      refine wpAnyH_take (i := 38) (oi := _) (v := ?_) rfl (by kernel_rfl) (by kernel_rfl) (by kernel_rfl) (fun _ _ _ h => h) (Or.inl ⟨by kernel_rfl, ?_⟩) (by assumption) ?_
      rotate_left 1
      · intro w hSw
        (try dsimp only at hSw)
        go_simp
        all_goals (with_reducible rfl)
      try simp only [Act.put, List.setIfInBounds_toArray, List.set_cons_zero, List.set_cons_succ]
      refine wpAnyH_take (i := 39) (oi := _) (v := ?_) rfl (by kernel_rfl) (by kernel_rfl) (by kernel_rfl) (fun _ _ _ h => h) (Or.inl ⟨by kernel_rfl, ?_⟩) (by assumption) ?_
      rotate_left 1
      · intro w hSw
        (try dsimp only at hSw)
        go_simp
        all_goals (with_reducible rfl)
      try simp only [Act.put, List.setIfInBounds_toArray, List.set_cons_zero, List.set_cons_succ]
      refine wpAnyH_take (i := 41) (oi := _) (v := ?_) rfl (by kernel_rfl) (by kernel_rfl) (by kernel_rfl) (fun _ _ _ h => h) (Or.inl ⟨by kernel_rfl, ?_⟩) (by assumption) ?_
      rotate_left 1
      · intro w hSw
        (try dsimp only at hSw)
        go_simp
        all_goals (with_reducible rfl)
      try simp only [Act.put, List.setIfInBounds_toArray, List.set_cons_zero, List.set_cons_succ]
      refine wpAnyH_take (i := 43) (oi := _) (v := ?_) rfl (by kernel_rfl) (by kernel_rfl) (by kernel_rfl) (fun _ _ _ h => h) (Or.inl ⟨by kernel_rfl, ?_⟩) (by assumption) ?_
      rotate_left 1
      · intro w hSw
        (try dsimp only at hSw)
        go_simp
        all_goals (with_reducible rfl)
      try simp only [Act.put, List.setIfInBounds_toArray, List.set_cons_zero, List.set_cons_succ]
      refine wpAnyH_take (i := 44) (oi := _) (v := ?_) rfl (by kernel_rfl) (by kernel_rfl) (by kernel_rfl) (fun _ _ _ h => h) (Or.inl ⟨by kernel_rfl, ?_⟩) (by assumption) ?_
      rotate_left 1
      · intro w hSw
        (try dsimp only at hSw)
        go_simp
        all_goals (with_reducible rfl)
      try simp only [Act.put, List.setIfInBounds_toArray, List.set_cons_zero, List.set_cons_succ]
      refine wpAnyH_ready (rs := [40]) (by kernel_rfl) (by simp) ?_
      refine AllReadyH.cons (o := _) rfl (fun K hK => ?_) AllReadyH.nil
      go_simp
      first | (go_at_call 20; refine (HasK _ (by first | assumption | exact HS.out.kp (by assumption) | exact HT.out.kp (by assumption) | exact IsSet.none _) (by omega) (by first | exact hA | exact hB | exact hU | exact hM | exact hD | rfl)).mono ?_; rintro e wx ⟨rfl, hbx⟩; have hkx : Below wr.heap.size wr wx := kb_call hbx (by assumption)) | (go_at_call 16; refine (UnionK (HS.out.kp (by assumption)) (HT.out.kp (by assumption)) (by omega) (by omega)).mono ?_; rintro e wx ⟨vx, rfl, hsx, hbx, -⟩; have hkx : Below wr.heap.size wr wx := kb_call hbx (by assumption)) | (go_at_call 18; refine (MeetK (HS.out.kp (by assumption)) (HT.out.kp (by assumption)) (by omega) (by omega)).mono ?_; rintro e wx ⟨vx, rfl, hsx, hbx, -⟩; have hkx : Below wr.heap.size wr wx := kb_call hbx (by assumption)) | (go_at_call 19; refine (MinusK (HS.out.kp (by assumption)) (HT.out.kp (by assumption)) (by omega) (by omega)).mono ?_; rintro e wx ⟨vx, rfl, hsx, hbx, -⟩; have hkx : Below wr.heap.size wr wx := kb_call hbx (by assumption))
      refine hK.out _ _ (kp2 x1 x2 (by assumption)) (fun hHeld => ?_)
      clear hK K
      try simp only [Act.put, List.setIfInBounds_toArray, List.set_cons_zero, List.set_cons_succ]
      refine wpAnyH_ready (rs := [42]) (by kernel_rfl) (by simp) ?_
      refine AllReadyH.cons (o := _) rfl (fun K hK => ?_) AllReadyH.nil
      go_simp
      first | (go_at_call 20; refine (HasK _ (by first | assumption | exact HS.out.kp (by assumption) | exact HT.out.kp (by assumption) | exact IsSet.none _) (by omega) (by first | exact hA | exact hB | exact hU | exact hM | exact hD | rfl)).mono ?_; rintro e wx ⟨rfl, hbx⟩; have hkx : Below wr.heap.size wr wx := kb_call hbx (by assumption)) | (go_at_call 16; refine (UnionK (HS.out.kp (by assumption)) (HT.out.kp (by assumption)) (by omega) (by omega)).mono ?_; rintro e wx ⟨vx, rfl, hsx, hbx, -⟩; have hkx : Below wr.heap.size wr wx := kb_call hbx (by assumption)) | (go_at_call 18; refine (MeetK (HS.out.kp (by assumption)) (HT.out.kp (by assumption)) (by omega) (by omega)).mono ?_; rintro e wx ⟨vx, rfl, hsx, hbx, -⟩; have hkx : Below wr.heap.size wr wx := kb_call hbx (by assumption)) | (go_at_call 19; refine (MinusK (HS.out.kp (by assumption)) (HT.out.kp (by assumption)) (by omega) (by omega)).mono ?_; rintro e wx ⟨vx, rfl, hsx, hbx, -⟩; have hkx : Below wr.heap.size wr wx := kb_call hbx (by assumption))
      refine hK.out _ _ (kp2 x1 x2 (by assumption)) (fun hHeld => ?_)
      clear hK K
      try simp only [Act.put, List.setIfInBounds_toArray, List.set_cons_zero, List.set_cons_succ]
      refine wpAnyH_ready (rs := [45]) (by kernel_rfl) (by simp) ?_
      refine AllReadyH.cons (o := _) rfl (fun K hK => ?_) AllReadyH.nil
      go_simp
      first | (go_at_call 20; refine (HasK _ (by first | assumption | exact HS.out.kp (by assumption) | exact HT.out.kp (by assumption) | exact IsSet.none _) (by omega) (by first | exact hA | exact hB | exact hU | exact hM | exact hD | rfl)).mono ?_; rintro e wx ⟨rfl, hbx⟩; have hkx : Below wr.heap.size wr wx := kb_call hbx (by assumption)) | (go_at_call 16; refine (UnionK (HS.out.kp (by assumption)) (HT.out.kp (by assumption)) (by omega) (by omega)).mono ?_; rintro e wx ⟨vx, rfl, hsx, hbx, -⟩; have hkx : Below wr.heap.size wr wx := kb_call hbx (by assumption)) | (go_at_call 18; refine (MeetK (HS.out.kp (by assumption)) (HT.out.kp (by assumption)) (by omega) (by omega)).mono ?_; rintro e wx ⟨vx, rfl, hsx, hbx, -⟩; have hkx : Below wr.heap.size wr wx := kb_call hbx (by assumption)) | (go_at_call 19; refine (MinusK (HS.out.kp (by assumption)) (HT.out.kp (by assumption)) (by omega) (by omega)).mono ?_; rintro e wx ⟨vx, rfl, hsx, hbx, -⟩; have hkx : Below wr.heap.size wr wx := kb_call hbx (by assumption))
      refine hK.out _ _ (kp2 x1 x2 (by assumption)) (fun hHeld => ?_)
      clear hK K
      try simp only [Act.put, List.setIfInBounds_toArray, List.set_cons_zero, List.set_cons_succ]
      refine wpAnyH_take (i := 46) (oi := _) (v := ?_) rfl (by kernel_rfl) (by kernel_rfl) (by kernel_rfl) (fun _ _ _ h => h) (Or.inl ⟨by kernel_rfl, ?_⟩) (by assumption) ?_
      rotate_left 1
      · intro w hSw
        (try dsimp only at hSw)
        go_simp
        all_goals (with_reducible rfl)
      try simp only [Act.put, List.setIfInBounds_toArray, List.set_cons_zero, List.set_cons_succ]
      refine wpAnyH_take (i := 47) (oi := _) (v := undef) rfl (by kernel_rfl) (by kernel_rfl) (by kernel_rfl) (fun _ _ _ h => h) (Or.inr ⟨by kernel_rfl, rfl⟩) (by assumption) ?_
      try simp only [Act.put, List.setIfInBounds_toArray, List.set_cons_zero, List.set_cons_succ]
      refine wpAnyH_take (i := 48) (oi := _) (v := undef) rfl (by kernel_rfl) (by kernel_rfl) (by kernel_rfl) (fun _ _ _ h => h) (Or.inr ⟨by kernel_rfl, rfl⟩) (by assumption) ?_
      try simp only [Act.put, List.setIfInBounds_toArray, List.set_cons_zero, List.set_cons_succ]
      refine wpAnyH_take (i := 49) (oi := _) (v := undef) rfl (by kernel_rfl) (by kernel_rfl) (by kernel_rfl) (fun _ _ _ h => h) (Or.inr ⟨by kernel_rfl, rfl⟩) (by assumption) ?_
      try simp only [Act.put, List.setIfInBounds_toArray, List.set_cons_zero, List.set_cons_succ]
      refine wpAnyH_take (i := 50) (oi := _) (v := undef) rfl (by kernel_rfl) (by kernel_rfl) (by kernel_rfl) (fun _ _ _ h => h) (Or.inr ⟨by kernel_rfl, rfl⟩) (by assumption) ?_
      try simp only [Act.put, List.setIfInBounds_toArray, List.set_cons_zero, List.set_cons_succ]
      refine wpAnyH_take (i := 51) (oi := _) (v := ?_) rfl (by kernel_rfl) (by kernel_rfl) (by kernel_rfl) (fun _ _ _ h => h) (Or.inl ⟨by kernel_rfl, ?_⟩) (by assumption) ?_
      rotate_left 1
      · intro w hSw
        (try dsimp only at hSw)
        go_simp
        all_goals (with_reducible rfl)
      try simp only [Act.put, List.setIfInBounds_toArray, List.set_cons_zero, List.set_cons_succ]
      refine wpAnyH_take (i := 52) (oi := _) (v := ?_) rfl (by kernel_rfl) (by kernel_rfl) (by kernel_rfl) (fun _ _ _ h => h) (Or.inl ⟨by kernel_rfl, ?_⟩) (by assumption) ?_
      rotate_left 1
      · intro w hSw
        (try dsimp only at hSw)
        go_simp
        all_goals (with_reducible rfl)
      try simp only [Act.put, List.setIfInBounds_toArray, List.set_cons_zero, List.set_cons_succ]
      refine wpAnyH_take (i := 53) (oi := _) (v := ?_) rfl (by kernel_rfl) (by kernel_rfl) (by kernel_rfl) (fun _ _ _ h => h) (Or.inl ⟨by kernel_rfl, ?_⟩) (by assumption) ?_
      rotate_left 1
      · intro w hSw
        (try dsimp only at hSw)
        go_simp
        all_goals (with_reducible rfl)
      try simp only [Act.put, List.setIfInBounds_toArray, List.set_cons_zero, List.set_cons_succ]
      refine wpAnyH_take (i := 54) (oi := _) (v := ?_) rfl (by kernel_rfl) (by kernel_rfl) (by kernel_rfl) (fun _ _ _ h => h) (Or.inl ⟨by kernel_rfl, ?_⟩) (by assumption) ?_
      rotate_left 1
      · intro w hSw
        (try dsimp only at hSw)
        go_simp
        all_goals (with_reducible rfl)
      try simp only [Act.put, List.setIfInBounds_toArray, List.set_cons_zero, List.set_cons_succ]
      refine wpAnyH_take (i := 55) (oi := _) (v := ?_) rfl (by kernel_rfl) (by kernel_rfl) (by kernel_rfl) (fun _ _ _ h => h) (Or.inl ⟨by kernel_rfl, ?_⟩) (by assumption) ?_
      rotate_left 1
      · intro w hSw
        (try dsimp only at hSw)
        go_simp
        all_goals (with_reducible rfl)
      try simp only [Act.put, List.setIfInBounds_toArray, List.set_cons_zero, List.set_cons_succ]
      refine wpAnyH_take (i := 56) (oi := _) (v := ?_) rfl (by kernel_rfl) (by kernel_rfl) (by kernel_rfl) (fun _ _ _ h => h) (Or.inl ⟨by kernel_rfl, ?_⟩) (by assumption) ?_
      rotate_left 1
      · intro w hSw
        (try dsimp only at hSw)
        go_simp
        all_goals (with_reducible rfl)
      try simp only [Act.put, List.setIfInBounds_toArray, List.set_cons_zero, List.set_cons_succ]
      refine wpAnyH_ready (rs := [57]) (by kernel_rfl) (by simp) ?_
      refine AllReadyH.cons (o := _) rfl (fun K hK => ?_) AllReadyH.nil
      go_simp
      first | (go_at_call 20; refine (HasK _ (by first | assumption | exact HS.out.kp (by assumption) | exact HT.out.kp (by assumption) | exact IsSet.none _) (by omega) (by first | exact hA | exact hB | exact hU | exact hM | exact hD | rfl)).mono ?_; rintro e wx ⟨rfl, hbx⟩; have hkx : Below wr.heap.size wr wx := kb_call hbx (by assumption)) | (go_at_call 16; refine (UnionK (HS.out.kp (by assumption)) (HT.out.kp (by assumption)) (by omega) (by omega)).mono ?_; rintro e wx ⟨vx, rfl, hsx, hbx, -⟩; have hkx : Below wr.heap.size wr wx := kb_call hbx (by assumption)) | (go_at_call 18; refine (MeetK (HS.out.kp (by assumption)) (HT.out.kp (by assumption)) (by omega) (by omega)).mono ?_; rintro e wx ⟨vx, rfl, hsx, hbx, -⟩; have hkx : Below wr.heap.size wr wx := kb_call hbx (by assumption)) | (go_at_call 19; refine (MinusK (HS.out.kp (by assumption)) (HT.out.kp (by assumption)) (by omega) (by omega)).mono ?_; rintro e wx ⟨vx, rfl, hsx, hbx, -⟩; have hkx : Below wr.heap.size wr wx := kb_call hbx (by assumption))
      refine hK.out _ _ (kp2 x1 x2 (by assumption)) (fun hHeld => ?_)
      clear hK K
      try simp only [Act.put, List.setIfInBounds_toArray, List.set_cons_zero, List.set_cons_succ]
      refine wpAnyH_take (i := 58) (oi := _) (v := ?_) rfl (by kernel_rfl) (by kernel_rfl) (by kernel_rfl) (fun _ _ _ h => h) (Or.inl ⟨by kernel_rfl, ?_⟩) (by assumption) ?_
      rotate_left 1
      · intro w hSw
        (try dsimp only at hSw)
        go_simp
        all_goals (with_reducible rfl)
      try simp only [Act.put, List.setIfInBounds_toArray, List.set_cons_zero, List.set_cons_succ]
      refine wpAnyH_take (i := 59) (oi := _) (v := ?_) rfl (by kernel_rfl) (by kernel_rfl) (by kernel_rfl) (fun _ _ _ h => h) (Or.inl ⟨by kernel_rfl, ?_⟩) (by assumption) ?_
      rotate_left 1
      · intro w hSw
        (try dsimp only at hSw)
        go_simp
        all_goals (with_reducible rfl)
      try simp only [Act.put, List.setIfInBounds_toArray, List.set_cons_zero, List.set_cons_succ]
      refine wpAnyH_take (i := 60) (oi := _) (v := ?_) rfl (by kernel_rfl) (by kernel_rfl) (by kernel_rfl) (fun _ _ _ h => h) (Or.inl ⟨by kernel_rfl, ?_⟩) (by assumption) ?_
      rotate_left 1
      · intro w hSw
        (try dsimp only at hSw)
        go_simp
        all_goals (with_reducible rfl)
      try simp only [Act.put, List.setIfInBounds_toArray, List.set_cons_zero, List.set_cons_succ]
      refine wpAnyH_done (by kernel_rfl) ?_ _
      try simp only [Act.put, List.getElem_toArray, List.getElem_cons_succ, List.getElem_cons_zero, List.setIfInBounds_toArray, List.set_cons_zero, List.set_cons_succ]
      go_wp2
      go_ret
      exact ⟨rfl, hb7.trans (Below.mono (by assumption) hb7.size)⟩

end Go.Proofs.Ytefcadngdcgpiaa
