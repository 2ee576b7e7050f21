/-
  What is proved: SpanParts returns true for all that it may be handed. Conditions: what came in lies in memory as the frame says.
-/
import Derived.Test.YtefcadngdcgpiaaSpW
import Derived.Test.YtefcadngdcgpiaaSpO
import Derived.Test.YtefcadngdcgpiaaFrameP
import Derived.Test.YtefcadngdcgpiaaSpX
import Derived.LoopN
import Derived.Deep.DeepCutAuto
import Derived.Deep.RegionHeld3
namespace Go.Proofs.Ytefcadngdcgpiaa
open Go Go.RowKit Go.Proofs

set_option linter.unusedVariables false
set_option linter.unusedSimpArgs false
set_option maxHeartbeats 8000000 in
set_option maxRecDepth 100000 in
theorem walkSpanParts (p : Option Addr) (n cp : Nat) (L : List Sp) (q : Option Addr) (m cq : Nat) (M : List Sp) (w : World) (hp : SpansArg w p n cp L) (hq : SpansArg w q m cq M) :
    Calls Try.prog 5 #[.slice p n cp, .slice q m cq] w fun e w' => e = .returned (.bool true) ∧ Below w.heap.size w w' := by
  obtain ⟨rfl, hsp, h64p, -, hc0p⟩ := hp
  have Hp := Lib.hid hsp
  have Ap := Lib.hid h64p
  obtain ⟨rfl, hsq, h64q, -, hc0q⟩ := hq
  have Hq := Lib.hid hsq
  have Aq := Lib.hid h64q
  clear hsp h64p hsq h64q
  by_cases hbig : 40 < L.length ∨ 40 < M.length
  · have h2 : ((40 : Int) < (L.length : Int)) ∨ (¬ (40 : Int) < (L.length : Int) ∧ (40 : Int) < (M.length : Int)) := by omega
    clear hbig
    rcases h2 with d0 | ⟨d0, d1⟩
    all_goals
      go_enter Try.func5, Try.ntmps5
      go_wp2_with fail
      refine (awake_any _).mono ?_
      rintro e w1 ⟨rfl, hb1⟩
      go_wp2
      go_ret
      exact ⟨rfl, hb1⟩
  have n0 : L.length ≤ 40 := by omega
  have n1 : M.length ≤ 40 := by omega
  clear hbig
  have d0 : ¬ (40 : Int) < (L.length : Int) := by omega
  have d1 : ¬ (40 : Int) < (M.length : Int) := by omega
  go_enter Try.func5, Try.ntmps5
  go_wp2_with fail
  refine (awake_any _).mono ?_
  rintro e w0 ⟨rfl, hb0⟩
  obtain ⟨V0, hV0⟩ : ∃ V0, V0 = w0.alloc (.cells #[.slice p L.length cp, .slice q M.length cq] 22) := ⟨_, rfl⟩
  have hbV : Below w0.heap.size w0 V0 := by rw [hV0]; exact (Below.refl _ _).alloc (Nat.le_refl _) _
  have v0 : V0.cell? ⟨w0.heap.size, 0, none⟩ = some (.slice p L.length cp) := by rw [hV0, World.cell?_alloc_new]; rfl
  have v1 : V0.cell? ⟨w0.heap.size, 1, none⟩ = some (.slice q M.length cq) := by rw [hV0, World.cell?_alloc_new]; rfl
  have hb9 := hb0.trans (hbV.mono hb0.size)
  have GP := Lib.hid (Hp.out.below hb9 (Nat.le_refl _))
  have GQ := Lib.hid (Hq.out.below hb9 (Nat.le_refl _))
  obtain ⟨n, hnl⟩ : ∃ n, n = L.length := ⟨_, rfl⟩
  obtain ⟨m, hml⟩ : ∃ m, m = M.length := ⟨_, rfl⟩
  have HN := Lib.hid hnl
  have HMn := Lib.hid hml
  rw [← hnl] at hV0 v0 n0 d0 ⊢
  rw [← hml] at hV0 v1 n1 d1 ⊢
  clear hnl hml hb0 hbV Hp Hq
  go_wp2
  rw [← hV0]
  clear hV0
  refine wp_loop_rounds 3 ?_
  rw [rounds_succ]
  go_wp2
  go_loop [7] (fun iv => ∃ j : Nat, j ≤ n ∧ iv = .int .i64 j ∧ Hid (∀ i, i < j → InP (L.getD i (0, 0)))) (fun iv => n - (RowKit.intOf iv).toNat)
  case atStart => exact ⟨0, by omega, rfl, Lib.hid (fun i hi => absurd hi (by omega))⟩
  case round =>
    obtain ⟨j, hj, rfl, HIL⟩ := hrel
    by_cases hlt : j < n
    · have hlt' : j < L.length := by rw [← HN.out]; exact hlt
      rcases GP.out with h | ⟨bb, oo, rfl, hc⟩
      · rw [h] at hlt'; simp at hlt'
      obtain ⟨e1, e2⟩ := hc j hlt'
      have i1 : (j : Int) < (n : Int) := by omega
      have HX : Hid (InP (L.getD j (0, 0)) → ∀ i, i < j + 1 → InP (L.getD i (0, 0))) := Lib.hid (fun h i hi => by
        rcases Nat.lt_or_ge i j with h1 | h1
        · exact HIL.out i h1
        · rw [show i = j by omega]; exact h)
      clear hc hlt' HIL
      generalize L.getD j (0, 0) = s at *
      obtain ⟨x, y⟩ := s
      dsimp only at e1 e2
      by_cases c1 : x < -1099511627776
      · clear HX
        go_wp2
        go_ret
        exact ⟨rfl, hb9⟩
      · by_cases c2 : 1099511627776 < y
        · clear HX
          go_wp2
          go_ret
          exact ⟨rfl, hb9⟩
        · have HX2 := Lib.hid (HX.out ⟨by show -1099511627776 ≤ x; omega, by show y ≤ 1099511627776; omega⟩)
          clear HX
          go_wp2
          go_round
          case rel => exact ⟨j + 1, by omega, by go_num, HX2⟩
          case measure => simp [RowKit.intOf]; omega
    · have hjn : j = n := by omega
      have HFL : Hid (∀ i, i < n → InP (L.getD i (0, 0))) := Lib.hid (by rw [← hjn]; exact HIL.out)
      have hjz : ¬ (j : Int) < (n : Int) := by omega
      clear hjn HIL hlt
      go_wp2
      rw [rounds_succ]
      go_wp2
      go_loop [7] (fun iv => ∃ j : Nat, j ≤ m ∧ iv = .int .i64 j ∧ Hid (∀ i, i < j → InP (M.getD i (0, 0)))) (fun iv => m - (RowKit.intOf iv).toNat)
      case atStart => exact ⟨0, by omega, rfl, Lib.hid (fun i hi => absurd hi (by omega))⟩
      case round =>
        obtain ⟨j, hj, rfl, HIM⟩ := hrel
        by_cases hlt : j < m
        · have hlt' : j < M.length := by rw [← HMn.out]; exact hlt
          rcases GQ.out with h | ⟨bb, oo, rfl, hc⟩
          · rw [h] at hlt'; simp at hlt'
          obtain ⟨e1, e2⟩ := hc j hlt'
          have i1 : (j : Int) < (m : Int) := by omega
          have HX : Hid (InP (M.getD j (0, 0)) → ∀ i, i < j + 1 → InP (M.getD i (0, 0))) := Lib.hid (fun h i hi => by
            rcases Nat.lt_or_ge i j with h1 | h1
            · exact HIM.out i h1
            · rw [show i = j by omega]; exact h)
          clear hc hlt' HIM
          generalize M.getD j (0, 0) = s at *
          obtain ⟨x, y⟩ := s
          dsimp only at e1 e2
          by_cases c1 : x < -1099511627776
          · clear HX
            go_wp2
            go_ret
            exact ⟨rfl, hb9⟩
          · by_cases c2 : 1099511627776 < y
            · clear HX
              go_wp2
              go_ret
              exact ⟨rfl, hb9⟩
            · have HX2 := Lib.hid (HX.out ⟨by show -1099511627776 ≤ x; omega, by show y ≤ 1099511627776; omega⟩)
              clear HX
              go_wp2
              go_round
              case rel => exact ⟨j + 1, by omega, by go_num, HX2⟩
              case measure => simp [RowKit.intOf]; omega
        · have hjn : j = m := by omega
          have HFM : Hid (∀ i, i < m → InP (M.getD i (0, 0))) := Lib.hid (by rw [← hjn]; exact HIM.out)
          have hjz : ¬ (j : Int) < (m : Int) := by omega
          clear hjn HIM hlt
          go_wp2
          rw [rounds_succ]
          have HOL := Lib.hid (show ∀ W, SpansIn W p L → Calls Try.prog 12 #[.slice p n cp] W (SetPost (2 * n) (fun d => hasB L d) W) from fun W h => by
            have := Of_set p cp L W (by rw [← HN.out]; omega) Ap.out h
            rwa [← HN.out] at this)
          have HOM := Lib.hid (show ∀ W, SpansIn W q M → Calls Try.prog 12 #[.slice q m cq] W (SetPost (2 * m) (fun d => hasB M d) W) from fun W h => by
            have := Of_set q cq M W (by rw [← HMn.out]; omega) Aq.out h
            rwa [← HMn.out] at this)
          go_wp2_with fail
          refine (HOL.out _ GP.out).mono ?_
          rintro e u0 ⟨u, rfl, ⟨K0, p0, c0, rfl, k0⟩, hc0, -⟩
          have HK0 := Lib.hid k0
          clear k0
          go_wp2_with fail
          refine (HOM.out _ (GQ.out.below hc0 (Nat.le_refl _))).mono ?_
          rintro e u1 ⟨u, rfl, ⟨K1, p1, c1, rfl, k1⟩, hc1, -⟩
          have HK1 := Lib.hid k1
          clear k1
          obtain ⟨W4, hW4⟩ : ∃ W4, W4 = (u1.alloc (.cells #[.slice p0 K0.length c0] 26)).alloc (.cells #[.slice p1 K1.length c1] 26) := ⟨_, rfl⟩
          have hb4 : Below u1.heap.size u1 W4 := by rw [hW4]; exact (((Below.refl _ _).alloc (Nat.le_refl _) _).alloc (by simp) _)
          have hz1 : (u1.alloc (.cells #[.slice p0 K0.length c0] 26)).heap.size = u1.heap.size + 1 := by simp
          have x0 : W4.cell? ⟨u1.heap.size, 0, none⟩ = some (.slice p0 K0.length c0) := by rw [hW4]; rw [World.cell?_alloc_lt _ _ _ (by simp)]; exact new_cell _ _ _
          have x1 : W4.cell? ⟨u1.heap.size + 1, 0, none⟩ = some (.slice p1 K1.length c1) := by rw [hW4]; rw [← hz1]; exact new_cell _ _ _
          have hc14 := hc1.trans (hb4.mono hc1.size)
          have S0 : Hid (IsSet W4 (2 * n) (fun d => hasB L d) (.agg #[.slice p0 K0.length c0])) := Lib.hid (IsSet.below ⟨K0, p0, c0, rfl, HK0.out⟩ hc14 (Nat.le_refl _))
          have S1 : Hid (IsSet W4 (2 * m) (fun d => hasB M d) (.agg #[.slice p1 K1.length c1])) := Lib.hid (IsSet.below ⟨K1, p1, c1, rfl, HK1.out⟩ hb4 (Nat.le_refl _))
          have hb7 := hb9.trans ((hc0.trans (hc14.mono hc0.size)).mono hb9.size)
          clear HK0 HK1 hc0 hc1 hb4 hz1 hc14 v0 v1 GP GQ HOL HOM
          go_wp2
          rw [← hW4]
          clear hW4
          go_cut [10, 11] (fun s10 s11 wx => Two W4 (2 * (2 * n) + 2 * (2 * m)) (fun d => hasB L d && hasB M d) (fun d => hasB L d && !hasB M d) s10 s11 wx)
          case first =>
            refine wp_region_held_drew (S := fun w' => (w'.cell? ⟨u1.heap.size, 0, none⟩ = some (.slice p0 K0.length c0) ∧ w'.cell? ⟨u1.heap.size + 1, 0, none⟩ = some (.slice p1 K1.length c1)) ∧ Below W4.heap.size W4 w') (by kernel_rfl) (kp2 x0 x1 kb_drew) (fun hHeld => ?_)
            refine wpAnyH_take (i := 0) (oi := _) (v := ?_) rfl (by kernel_rfl) (by kernel_rfl) (by kernel_rfl) (fun _ _ _ h => h) (Or.inl ⟨by kernel_rfl, ?_⟩) (by assumption) ?_
            rotate_left 1
            · intro w hSw
              (try dsimp only at hSw)
              go_simp
              all_goals (with_reducible rfl)
            try simp only [Act.put, List.setIfInBounds_toArray, List.set_cons_zero, List.set_cons_succ]
            refine wpAnyH_take (i := 1) (oi := _) (v := ?_) rfl (by kernel_rfl) (by kernel_rfl) (by kernel_rfl) (fun _ _ _ h => h) (Or.inl ⟨by kernel_rfl, ?_⟩) (by assumption) ?_
            rotate_left 1
            · intro w hSw
              (try dsimp only at hSw)
              go_simp
              all_goals (with_reducible rfl)
            try simp only [Act.put, List.setIfInBounds_toArray, List.set_cons_zero, List.set_cons_succ]
            refine wpAnyH_take (i := 3) (oi := _) (v := ?_) rfl (by kernel_rfl) (by kernel_rfl) (by kernel_rfl) (fun _ _ _ h => h) (Or.inl ⟨by kernel_rfl, ?_⟩) (by assumption) ?_
            rotate_left 1
            · intro w hSw
              (try dsimp only at hSw)
              go_simp
              all_goals (with_reducible rfl)
            try simp only [Act.put, List.setIfInBounds_toArray, List.set_cons_zero, List.set_cons_succ]
            refine wpAnyH_take (i := 4) (oi := _) (v := ?_) rfl (by kernel_rfl) (by kernel_rfl) (by kernel_rfl) (fun _ _ _ h => h) (Or.inl ⟨by kernel_rfl, ?_⟩) (by assumption) ?_
            rotate_left 1
            · intro w hSw
              (try dsimp only at hSw)
              go_simp
              all_goals (with_reducible rfl)
            try simp only [Act.put, List.setIfInBounds_toArray, List.set_cons_zero, List.set_cons_succ]
            clear hHeld
            have hk : Below W4.heap.size W4 W4.drew := kb_drew
            refine wpAnyH_ready (rs := [2,6,7]) (by kernel_rfl) (by simp) ?_
            refine AllReadyH.cons (o := _) rfl (fun K hK => ?_) ?_
            · go_simp
              go_at_call 18
              refine (MeetK (S0.out.below hk (Nat.le_refl _)) (S1.out.below hk (Nat.le_refl _)) (by omega) (by omega)).mono ?_
              rintro e y0 ⟨u, rfl, ⟨Kb, pb, cb, rfl, kk⟩, hb, fb⟩
              replace hk := kc hb hk
              clear hb
              have IB : Hid (IsSet y0 (2 * (2 * n) + 2 * (2 * m)) (fun d => hasB L d && hasB M d) (.agg #[.slice pb Kb.length cb])) := Lib.hid ⟨Kb, pb, cb, rfl, kk⟩
              clear kk fb
              refine hK.out _ _ (kp2 x0 x1 hk) (fun _ => ?_)
              clear hK K
              try simp only [Act.put, List.setIfInBounds_toArray, List.set_cons_zero, List.set_cons_succ]
              refine wpAnyH_ready (rs := [5,6,7]) (by kernel_rfl) (by simp) ?_
              refine AllReadyH.cons (o := _) rfl (fun K hK => ?_) ?_
              · go_simp
                go_at_call 19
                refine (MinusK (S0.out.below hk (Nat.le_refl _)) (S1.out.below hk (Nat.le_refl _)) (by omega) (by omega)).mono ?_
                rintro e y1 ⟨u, rfl, ⟨Kr, pr, cr, rfl, kk⟩, hb, fb⟩
                replace IB := Lib.hid (IsSet.below IB.out hb (Nat.le_refl _))
                replace hk := kc hb hk
                clear hb
                have IR : Hid (IsSet y1 (2 * (2 * n) + 2 * (2 * m)) (fun d => hasB L d && !hasB M d) (.agg #[.slice pr Kr.length cr])) := Lib.hid ⟨Kr, pr, cr, rfl, kk⟩
                clear kk fb
                refine hK.out _ _ (kp2 x0 x1 hk) (fun _ => ?_)
                clear hK K
                try simp only [Act.put, List.setIfInBounds_toArray, List.set_cons_zero, List.set_cons_succ]
                refine wpAnyH_ready (rs := [6,7]) (by kernel_rfl) (by simp) ?_
                refine AllReadyH.cons (o := _) rfl (fun K hK => ?_) ?_
                · refine step_alloc 10 rfl rfl rfl ?_
                  intro gA y2 FA' eA hb
                  have hgA : W4.heap.size ≤ gA := by rw [eA]; exact hk.size
                  clear eA
                  replace IB := Lib.hid (IsSet.below IB.out hb (Nat.le_refl _))
                  replace IR := Lib.hid (IsSet.below IR.out hb (Nat.le_refl _))
                  replace hk := kc hb hk
                  clear hb
                  have FA := FA'
                  clear FA'
                  refine hK.out _ _ (kp2 x0 x1 hk) (fun _ => ?_)
                  clear hK K
                  try simp only [Act.put, List.setIfInBounds_toArray, List.set_cons_zero, List.set_cons_succ]
                  refine wpAnyH_ready (rs := [7]) (by kernel_rfl) (by simp) ?_
                  refine AllReadyH.cons (o := _) rfl (fun K hK => ?_) AllReadyH.nil
                  refine step_alloc 11 rfl rfl rfl ?_
                  intro gB y3 FB' eB hb
                  have hgB : W4.heap.size ≤ gB := by rw [eB]; exact hk.size
                  have hne : gA ≠ gB := by have h9 := Fr.lt FA; omega
                  clear eB
                  replace FA := Fr.below FA hb
                  replace IB := Lib.hid (IsSet.below IB.out hb (Nat.le_refl _))
                  replace IR := Lib.hid (IsSet.below IR.out hb (Nat.le_refl _))
                  replace hk := kc hb hk
                  clear hb
                  have FB := FB'
                  clear FB'
                  refine hK.out _ _ (kp2 x0 x1 hk) (fun _ => ?_)
                  clear hK K
                  try simp only [Act.put, List.setIfInBounds_toArray, List.set_cons_zero, List.set_cons_succ]
                  refine wpAnyH_ready (rs := [8]) (by kernel_rfl) (by simp) ?_
                  refine AllReadyH.cons (o := _) rfl (fun K hK => ?_) AllReadyH.nil
                  refine step_store _ _ rfl rfl rfl gA pb Kb.length cb rfl rfl FA ?_
                  intro w5 e5
                  have FB5 : Fr w5 gB := by rw [e5.out]; exact Fr.set FB (Ne.symm hne)
                  have hk5 : Below W4.heap.size W4 w5 := by rw [e5.out]; exact kb_set' hk hgA
                  refine hK.out _ _ (kp2 x0 x1 hk5) (fun _ => ?_)
                  clear hK K
                  try simp only [Act.put, List.setIfInBounds_toArray, List.set_cons_zero, List.set_cons_succ]
                  refine wpAnyH_ready (rs := [9]) (by kernel_rfl) (by simp) ?_
                  refine AllReadyH.cons (o := _) rfl (fun K hK => ?_) AllReadyH.nil
                  refine step_store _ _ rfl rfl rfl gB pr Kr.length cr rfl rfl FB5 ?_
                  intro w6 e6
                  have hk6 : Below W4.heap.size W4 w6 := by rw [e6.out]; exact kb_set' hk5 hgB
                  refine hK.out _ _ (kp2 x0 x1 hk6) (fun _ => ?_)
                  clear hK K
                  try simp only [Act.put, List.setIfInBounds_toArray, List.set_cons_zero, List.set_cons_succ]
                  refine wpAnyH_done (by kernel_rfl) ?_ _
                  try simp only [Act.put, List.getElem_toArray, List.getElem_cons_succ, List.getElem_cons_zero, List.setIfInBounds_toArray, List.set_cons_zero, List.set_cons_succ]
                  go_wp2_with fail
                  go_meet
                  case rel => exact two_end FA FB hne IB.out IR.out hk hgA hgB e5.out e6.out
                refine AllReadyH.cons (o := _) rfl (fun K hK => ?_) AllReadyH.nil
                refine step_alloc 11 rfl rfl rfl ?_
                intro gB y2 FB' eB hb
                have hgB : W4.heap.size ≤ gB := by rw [eB]; exact hk.size
                clear eB
                replace IB := Lib.hid (IsSet.below IB.out hb (Nat.le_refl _))
                replace IR := Lib.hid (IsSet.below IR.out hb (Nat.le_refl _))
                replace hk := kc hb hk
                clear hb
                have FB := FB'
                clear FB'
                refine hK.out _ _ (kp2 x0 x1 hk) (fun _ => ?_)
                clear hK K
                try simp only [Act.put, List.setIfInBounds_toArray, List.set_cons_zero, List.set_cons_succ]
                refine wpAnyH_ready (rs := [6]) (by kernel_rfl) (by simp) ?_
                refine AllReadyH.cons (o := _) rfl (fun K hK => ?_) AllReadyH.nil
                refine step_alloc 10 rfl rfl rfl ?_
                intro gA y3 FA' eA hb
                have hgA : W4.heap.size ≤ gA := by rw [eA]; exact hk.size
                have hne : gA ≠ gB := by have h9 := Fr.lt FB; omega
                clear eA
                replace FB := Fr.below FB hb
                replace IB := Lib.hid (IsSet.below IB.out hb (Nat.le_refl _))
                replace IR := Lib.hid (IsSet.below IR.out hb (Nat.le_refl _))
                replace hk := kc hb hk
                clear hb
                have FA := FA'
                clear FA'
                refine hK.out _ _ (kp2 x0 x1 hk) (fun _ => ?_)
                clear hK K
                try simp only [Act.put, List.setIfInBounds_toArray, List.set_cons_zero, List.set_cons_succ]
                refine wpAnyH_ready (rs := [8]) (by kernel_rfl) (by simp) ?_
                refine AllReadyH.cons (o := _) rfl (fun K hK => ?_) AllReadyH.nil
                refine step_store _ _ rfl rfl rfl gA pb Kb.length cb rfl rfl FA ?_
                intro w5 e5
                have FB5 : Fr w5 gB := by rw [e5.out]; exact Fr.set FB (Ne.symm hne)
                have hk5 : Below W4.heap.size W4 w5 := by rw [e5.out]; exact kb_set' hk hgA
                refine hK.out _ _ (kp2 x0 x1 hk5) (fun _ => ?_)
                clear hK K
                try simp only [Act.put, List.setIfInBounds_toArray, List.set_cons_zero, List.set_cons_succ]
                refine wpAnyH_ready (rs := [9]) (by kernel_rfl) (by simp) ?_
                refine AllReadyH.cons (o := _) rfl (fun K hK => ?_) AllReadyH.nil
                refine step_store _ _ rfl rfl rfl gB pr Kr.length cr rfl rfl FB5 ?_
                intro w6 e6
                have hk6 : Below W4.heap.size W4 w6 := by rw [e6.out]; exact kb_set' hk5 hgB
                refine hK.out _ _ (kp2 x0 x1 hk6) (fun _ => ?_)
                clear hK K
                try simp only [Act.put, List.setIfInBounds_toArray, List.set_cons_zero, List.set_cons_succ]
                refine wpAnyH_done (by kernel_rfl) ?_ _
                try simp only [Act.put, List.getElem_toArray, List.getElem_cons_succ, List.getElem_cons_zero, List.setIfInBounds_toArray, List.set_cons_zero, List.set_cons_succ]
                go_wp2_with fail
                go_meet
                case rel => exact two_end FA FB hne IB.out IR.out hk hgA hgB e5.out e6.out
              refine AllReadyH.cons (o := _) rfl (fun K hK => ?_) ?_
              · refine step_alloc 10 rfl rfl rfl ?_
                intro gA y1 FA' eA hb
                have hgA : W4.heap.size ≤ gA := by rw [eA]; exact hk.size
                clear eA
                replace IB := Lib.hid (IsSet.below IB.out hb (Nat.le_refl _))
                replace hk := kc hb hk
                clear hb
                have FA := FA'
                clear FA'
                refine hK.out _ _ (kp2 x0 x1 hk) (fun _ => ?_)
                clear hK K
                try simp only [Act.put, List.setIfInBounds_toArray, List.set_cons_zero, List.set_cons_succ]
                refine wpAnyH_ready (rs := [5,7]) (by kernel_rfl) (by simp) ?_
                refine AllReadyH.cons (o := _) rfl (fun K hK => ?_) ?_
                · go_simp
                  go_at_call 19
                  refine (MinusK (S0.out.below hk (Nat.le_refl _)) (S1.out.below hk (Nat.le_refl _)) (by omega) (by omega)).mono ?_
                  rintro e y2 ⟨u, rfl, ⟨Kr, pr, cr, rfl, kk⟩, hb, fb⟩
                  replace FA := Fr.below FA hb
                  replace IB := Lib.hid (IsSet.below IB.out hb (Nat.le_refl _))
                  replace hk := kc hb hk
                  clear hb
                  have IR : Hid (IsSet y2 (2 * (2 * n) + 2 * (2 * m)) (fun d => hasB L d && !hasB M d) (.agg #[.slice pr Kr.length cr])) := Lib.hid ⟨Kr, pr, cr, rfl, kk⟩
                  clear kk fb
                  refine hK.out _ _ (kp2 x0 x1 hk) (fun _ => ?_)
                  clear hK K
                  try simp only [Act.put, List.setIfInBounds_toArray, List.set_cons_zero, List.set_cons_succ]
                  refine wpAnyH_ready (rs := [7]) (by kernel_rfl) (by simp) ?_
                  refine AllReadyH.cons (o := _) rfl (fun K hK => ?_) AllReadyH.nil
                  refine step_alloc 11 rfl rfl rfl ?_
                  intro gB y3 FB' eB hb
                  have hgB : W4.heap.size ≤ gB := by rw [eB]; exact hk.size
                  have hne : gA ≠ gB := by have h9 := Fr.lt FA; omega
                  clear eB
                  replace FA := Fr.below FA hb
                  replace IB := Lib.hid (IsSet.below IB.out hb (Nat.le_refl _))
                  replace IR := Lib.hid (IsSet.below IR.out hb (Nat.le_refl _))
                  replace hk := kc hb hk
                  clear hb
                  have FB := FB'
                  clear FB'
                  refine hK.out _ _ (kp2 x0 x1 hk) (fun _ => ?_)
                  clear hK K
                  try simp only [Act.put, List.setIfInBounds_toArray, List.set_cons_zero, List.set_cons_succ]
                  refine wpAnyH_ready (rs := [8]) (by kernel_rfl) (by simp) ?_
                  refine AllReadyH.cons (o := _) rfl (fun K hK => ?_) AllReadyH.nil
                  refine step_store _ _ rfl rfl rfl gA pb Kb.length cb rfl rfl FA ?_
                  intro w5 e5
                  have FB5 : Fr w5 gB := by rw [e5.out]; exact Fr.set FB (Ne.symm hne)
                  have hk5 : Below W4.heap.size W4 w5 := by rw [e5.out]; exact kb_set' hk hgA
                  refine hK.out _ _ (kp2 x0 x1 hk5) (fun _ => ?_)
                  clear hK K
                  try simp only [Act.put, List.setIfInBounds_toArray, List.set_cons_zero, List.set_cons_succ]
                  refine wpAnyH_ready (rs := [9]) (by kernel_rfl) (by simp) ?_
                  refine AllReadyH.cons (o := _) rfl (fun K hK => ?_) AllReadyH.nil
                  refine step_store _ _ rfl rfl rfl gB pr Kr.length cr rfl rfl FB5 ?_
                  intro w6 e6
                  have hk6 : Below W4.heap.size W4 w6 := by rw [e6.out]; exact kb_set' hk5 hgB
                  refine hK.out _ _ (kp2 x0 x1 hk6) (fun _ => ?_)
                  clear hK K
                  try simp only [Act.put, List.setIfInBounds_toArray, List.set_cons_zero, List.set_cons_succ]
                  refine wpAnyH_done (by kernel_rfl) ?_ _
                  try simp only [Act.put, List.getElem_toArray, List.getElem_cons_succ, List.getElem_cons_zero, List.setIfInBounds_toArray, List.set_cons_zero, List.set_cons_succ]
                  go_wp2_with fail
                  go_meet
                  case rel => exact two_end FA FB hne IB.out IR.out hk hgA hgB e5.out e6.out
                refine AllReadyH.cons (o := _) rfl (fun K hK => ?_) AllReadyH.nil
                refine step_alloc 11 rfl rfl rfl ?_
                intro gB y2 FB' eB hb
                have hgB : W4.heap.size ≤ gB := by rw [eB]; exact hk.size
                have hne : gA ≠ gB := by have h9 := Fr.lt FA; omega
                clear eB
                replace FA := Fr.below FA hb
                replace IB := Lib.hid (IsSet.below IB.out hb (Nat.le_refl _))
                replace hk := kc hb hk
                clear hb
                have FB := FB'
                clear FB'
                refine hK.out _ _ (kp2 x0 x1 hk) (fun _ => ?_)
                clear hK K
                try simp only [Act.put, List.setIfInBounds_toArray, List.set_cons_zero, List.set_cons_succ]
                refine wpAnyH_ready (rs := [5]) (by kernel_rfl) (by simp) ?_
                refine AllReadyH.cons (o := _) rfl (fun K hK => ?_) AllReadyH.nil
                go_simp
                go_at_call 19
                refine (MinusK (S0.out.below hk (Nat.le_refl _)) (S1.out.below hk (Nat.le_refl _)) (by omega) (by omega)).mono ?_
                rintro e y3 ⟨u, rfl, ⟨Kr, pr, cr, rfl, kk⟩, hb, fb⟩
                replace FA := Fr.below FA hb
                replace FB := Fr.below FB hb
                replace IB := Lib.hid (IsSet.below IB.out hb (Nat.le_refl _))
                replace hk := kc hb hk
                clear hb
                have IR : Hid (IsSet y3 (2 * (2 * n) + 2 * (2 * m)) (fun d => hasB L d && !hasB M d) (.agg #[.slice pr Kr.length cr])) := Lib.hid ⟨Kr, pr, cr, rfl, kk⟩
                clear kk fb
                refine hK.out _ _ (kp2 x0 x1 hk) (fun _ => ?_)
                clear hK K
                try simp only [Act.put, List.setIfInBounds_toArray, List.set_cons_zero, List.set_cons_succ]
                refine wpAnyH_ready (rs := [8]) (by kernel_rfl) (by simp) ?_
                refine AllReadyH.cons (o := _) rfl (fun K hK => ?_) AllReadyH.nil
                refine step_store _ _ rfl rfl rfl gA pb Kb.length cb rfl rfl FA ?_
                intro w5 e5
                have FB5 : Fr w5 gB := by rw [e5.out]; exact Fr.set FB (Ne.symm hne)
                have hk5 : Below W4.heap.size W4 w5 := by rw [e5.out]; exact kb_set' hk hgA
                refine hK.out _ _ (kp2 x0 x1 hk5) (fun _ => ?_)
                clear hK K
                try simp only [Act.put, List.setIfInBounds_toArray, List.set_cons_zero, List.set_cons_succ]
                refine wpAnyH_ready (rs := [9]) (by kernel_rfl) (by simp) ?_
                refine AllReadyH.cons (o := _) rfl (fun K hK => ?_) AllReadyH.nil
                refine step_store _ _ rfl rfl rfl gB pr Kr.length cr rfl rfl FB5 ?_
                intro w6 e6
                have hk6 : Below W4.heap.size W4 w6 := by rw [e6.out]; exact kb_set' hk5 hgB
                refine hK.out _ _ (kp2 x0 x1 hk6) (fun _ => ?_)
                clear hK K
                try simp only [Act.put, List.setIfInBounds_toArray, List.set_cons_zero, List.set_cons_succ]
                refine wpAnyH_done (by kernel_rfl) ?_ _
                try simp only [Act.put, List.getElem_toArray, List.getElem_cons_succ, List.getElem_cons_zero, List.setIfInBounds_toArray, List.set_cons_zero, List.set_cons_succ]
                go_wp2_with fail
                go_meet
                case rel => exact two_end FA FB hne IB.out IR.out hk hgA hgB e5.out e6.out
              refine AllReadyH.cons (o := _) rfl (fun K hK => ?_) AllReadyH.nil
              refine step_alloc 11 rfl rfl rfl ?_
              intro gB y1 FB' eB hb
              have hgB : W4.heap.size ≤ gB := by rw [eB]; exact hk.size
              clear eB
              replace IB := Lib.hid (IsSet.below IB.out hb (Nat.le_refl _))
              replace hk := kc hb hk
              clear hb
              have FB := FB'
              clear FB'
              refine hK.out _ _ (kp2 x0 x1 hk) (fun _ => ?_)
              clear hK K
              try simp only [Act.put, List.setIfInBounds_toArray, List.set_cons_zero, List.set_cons_succ]
              refine wpAnyH_ready (rs := [5,6]) (by kernel_rfl) (by simp) ?_
              refine AllReadyH.cons (o := _) rfl (fun K hK => ?_) ?_
              · go_simp
                go_at_call 19
                refine (MinusK (S0.out.below hk (Nat.le_refl _)) (S1.out.below hk (Nat.le_refl _)) (by omega) (by omega)).mono ?_
                rintro e y2 ⟨u, rfl, ⟨Kr, pr, cr, rfl, kk⟩, hb, fb⟩
                replace FB := Fr.below FB hb
                replace IB := Lib.hid (IsSet.below IB.out hb (Nat.le_refl _))
                replace hk := kc hb hk
                clear hb
                have IR : Hid (IsSet y2 (2 * (2 * n) + 2 * (2 * m)) (fun d => hasB L d && !hasB M d) (.agg #[.slice pr Kr.length cr])) := Lib.hid ⟨Kr, pr, cr, rfl, kk⟩
                clear kk fb
                refine hK.out _ _ (kp2 x0 x1 hk) (fun _ => ?_)
                clear hK K
                try simp only [Act.put, List.setIfInBounds_toArray, List.set_cons_zero, List.set_cons_succ]
                refine wpAnyH_ready (rs := [6]) (by kernel_rfl) (by simp) ?_
                refine AllReadyH.cons (o := _) rfl (fun K hK => ?_) AllReadyH.nil
                refine step_alloc 10 rfl rfl rfl ?_
                intro gA y3 FA' eA hb
                have hgA : W4.heap.size ≤ gA := by rw [eA]; exact hk.size
                have hne : gA ≠ gB := by have h9 := Fr.lt FB; omega
                clear eA
                replace FB := Fr.below FB hb
                replace IB := Lib.hid (IsSet.below IB.out hb (Nat.le_refl _))
                replace IR := Lib.hid (IsSet.below IR.out hb (Nat.le_refl _))
                replace hk := kc hb hk
                clear hb
                have FA := FA'
                clear FA'
                refine hK.out _ _ (kp2 x0 x1 hk) (fun _ => ?_)
                clear hK K
                try simp only [Act.put, List.setIfInBounds_toArray, List.set_cons_zero, List.set_cons_succ]
                refine wpAnyH_ready (rs := [8]) (by kernel_rfl) (by simp) ?_
                refine AllReadyH.cons (o := _) rfl (fun K hK => ?_) AllReadyH.nil
                refine step_store _ _ rfl rfl rfl gA pb Kb.length cb rfl rfl FA ?_
                intro w5 e5
                have FB5 : Fr w5 gB := by rw [e5.out]; exact Fr.set FB (Ne.symm hne)
                have hk5 : Below W4.heap.size W4 w5 := by rw [e5.out]; exact kb_set' hk hgA
                refine hK.out _ _ (kp2 x0 x1 hk5) (fun _ => ?_)
                clear hK K
                try simp only [Act.put, List.setIfInBounds_toArray, List.set_cons_zero, List.set_cons_succ]
                refine wpAnyH_ready (rs := [9]) (by kernel_rfl) (by simp) ?_
                refine AllReadyH.cons (o := _) rfl (fun K hK => ?_) AllReadyH.nil
                refine step_store _ _ rfl rfl rfl gB pr Kr.length cr rfl rfl FB5 ?_
                intro w6 e6
                have hk6 : Below W4.heap.size W4 w6 := by rw [e6.out]; exact kb_set' hk5 hgB
                refine hK.out _ _ (kp2 x0 x1 hk6) (fun _ => ?_)
                clear hK K
                try simp only [Act.put, List.setIfInBounds_toArray, List.set_cons_zero, List.set_cons_succ]
                refine wpAnyH_done (by kernel_rfl) ?_ _
                try simp only [Act.put, List.getElem_toArray, List.getElem_cons_succ, List.getElem_cons_zero, List.setIfInBounds_toArray, List.set_cons_zero, List.set_cons_succ]
                go_wp2_with fail
                go_meet
                case rel => exact two_end FA FB hne IB.out IR.out hk hgA hgB e5.out e6.out
              refine AllReadyH.cons (o := _) rfl (fun K hK => ?_) AllReadyH.nil
              refine step_alloc 10 rfl rfl rfl ?_
              intro gA y2 FA' eA hb
              have hgA : W4.heap.size ≤ gA := by rw [eA]; exact hk.size
              have hne : gA ≠ gB := by have h9 := Fr.lt FB; omega
              clear eA
              replace FB := Fr.below FB hb
              replace IB := Lib.hid (IsSet.below IB.out hb (Nat.le_refl _))
              replace hk := kc hb hk
              clear hb
              have FA := FA'
              clear FA'
              refine hK.out _ _ (kp2 x0 x1 hk) (fun _ => ?_)
              clear hK K
              try simp only [Act.put, List.setIfInBounds_toArray, List.set_cons_zero, List.set_cons_succ]
              refine wpAnyH_ready (rs := [5]) (by kernel_rfl) (by simp) ?_
              refine AllReadyH.cons (o := _) rfl (fun K hK => ?_) AllReadyH.nil
              go_simp
              go_at_call 19
              refine (MinusK (S0.out.below hk (Nat.le_refl _)) (S1.out.below hk (Nat.le_refl _)) (by omega) (by omega)).mono ?_
              rintro e y3 ⟨u, rfl, ⟨Kr, pr, cr, rfl, kk⟩, hb, fb⟩
              replace FA := Fr.below FA hb
              replace FB := Fr.below FB hb
              replace IB := Lib.hid (IsSet.below IB.out hb (Nat.le_refl _))
              replace hk := kc hb hk
              clear hb
              have IR : Hid (IsSet y3 (2 * (2 * n) + 2 * (2 * m)) (fun d => hasB L d && !hasB M d) (.agg #[.slice pr Kr.length cr])) := Lib.hid ⟨Kr, pr, cr, rfl, kk⟩
              clear kk fb
              refine hK.out _ _ (kp2 x0 x1 hk) (fun _ => ?_)
              clear hK K
              try simp only [Act.put, List.setIfInBounds_toArray, List.set_cons_zero, List.set_cons_succ]
              refine wpAnyH_ready (rs := [8]) (by kernel_rfl) (by simp) ?_
              refine AllReadyH.cons (o := _) rfl (fun K hK => ?_) AllReadyH.nil
              refine step_store _ _ rfl rfl rfl gA pb Kb.length cb rfl rfl FA ?_
              intro w5 e5
              have FB5 : Fr w5 gB := by rw [e5.out]; exact Fr.set FB (Ne.symm hne)
              have hk5 : Below W4.heap.size W4 w5 := by rw [e5.out]; exact kb_set' hk hgA
              refine hK.out _ _ (kp2 x0 x1 hk5) (fun _ => ?_)
              clear hK K
              try simp only [Act.put, List.setIfInBounds_toArray, List.set_cons_zero, List.set_cons_succ]
              refine wpAnyH_ready (rs := [9]) (by kernel_rfl) (by simp) ?_
              refine AllReadyH.cons (o := _) rfl (fun K hK => ?_) AllReadyH.nil
              refine step_store _ _ rfl rfl rfl gB pr Kr.length cr rfl rfl FB5 ?_
              intro w6 e6
              have hk6 : Below W4.heap.size W4 w6 := by rw [e6.out]; exact kb_set' hk5 hgB
              refine hK.out _ _ (kp2 x0 x1 hk6) (fun _ => ?_)
              clear hK K
              try simp only [Act.put, List.setIfInBounds_toArray, List.set_cons_zero, List.set_cons_succ]
              refine wpAnyH_done (by kernel_rfl) ?_ _
              try simp only [Act.put, List.getElem_toArray, List.getElem_cons_succ, List.getElem_cons_zero, List.setIfInBounds_toArray, List.set_cons_zero, List.set_cons_succ]
              go_wp2_with fail
              go_meet
              case rel => exact two_end FA FB hne IB.out IR.out hk hgA hgB e5.out e6.out
            refine AllReadyH.cons (o := _) rfl (fun K hK => ?_) ?_
            · refine step_alloc 10 rfl rfl rfl ?_
              intro gA y0 FA' eA hb
              have hgA : W4.heap.size ≤ gA := by rw [eA]; exact hk.size
              clear eA
              replace hk := kc hb hk
              clear hb
              have FA := FA'
              clear FA'
              refine hK.out _ _ (kp2 x0 x1 hk) (fun _ => ?_)
              clear hK K
              try simp only [Act.put, List.setIfInBounds_toArray, List.set_cons_zero, List.set_cons_succ]
              refine wpAnyH_ready (rs := [2,7]) (by kernel_rfl) (by simp) ?_
              refine AllReadyH.cons (o := _) rfl (fun K hK => ?_) ?_
              · go_simp
                go_at_call 18
                refine (MeetK (S0.out.below hk (Nat.le_refl _)) (S1.out.below hk (Nat.le_refl _)) (by omega) (by omega)).mono ?_
                rintro e y1 ⟨u, rfl, ⟨Kb, pb, cb, rfl, kk⟩, hb, fb⟩
                replace FA := Fr.below FA hb
                replace hk := kc hb hk
                clear hb
                have IB : Hid (IsSet y1 (2 * (2 * n) + 2 * (2 * m)) (fun d => hasB L d && hasB M d) (.agg #[.slice pb Kb.length cb])) := Lib.hid ⟨Kb, pb, cb, rfl, kk⟩
                clear kk fb
                refine hK.out _ _ (kp2 x0 x1 hk) (fun _ => ?_)
                clear hK K
                try simp only [Act.put, List.setIfInBounds_toArray, List.set_cons_zero, List.set_cons_succ]
                refine wpAnyH_ready (rs := [5,7]) (by kernel_rfl) (by simp) ?_
                refine AllReadyH.cons (o := _) rfl (fun K hK => ?_) ?_
                · go_simp
                  go_at_call 19
                  refine (MinusK (S0.out.below hk (Nat.le_refl _)) (S1.out.below hk (Nat.le_refl _)) (by omega) (by omega)).mono ?_
                  rintro e y2 ⟨u, rfl, ⟨Kr, pr, cr, rfl, kk⟩, hb, fb⟩
                  replace FA := Fr.below FA hb
                  replace IB := Lib.hid (IsSet.below IB.out hb (Nat.le_refl _))
                  replace hk := kc hb hk
                  clear hb
                  have IR : Hid (IsSet y2 (2 * (2 * n) + 2 * (2 * m)) (fun d => hasB L d && !hasB M d) (.agg #[.slice pr Kr.length cr])) := Lib.hid ⟨Kr, pr, cr, rfl, kk⟩
                  clear kk fb
                  refine hK.out _ _ (kp2 x0 x1 hk) (fun _ => ?_)
                  clear hK K
                  try simp only [Act.put, List.setIfInBounds_toArray, List.set_cons_zero, List.set_cons_succ]
                  refine wpAnyH_ready (rs := [7]) (by kernel_rfl) (by simp) ?_
                  refine AllReadyH.cons (o := _) rfl (fun K hK => ?_) AllReadyH.nil
                  refine step_alloc 11 rfl rfl rfl ?_
                  intro gB y3 FB' eB hb
                  have hgB : W4.heap.size ≤ gB := by rw [eB]; exact hk.size
                  have hne : gA ≠ gB := by have h9 := Fr.lt FA; omega
                  clear eB
                  replace FA := Fr.below FA hb
                  replace IB := Lib.hid (IsSet.below IB.out hb (Nat.le_refl _))
                  replace IR := Lib.hid (IsSet.below IR.out hb (Nat.le_refl _))
                  replace hk := kc hb hk
                  clear hb
                  have FB := FB'
                  clear FB'
                  refine hK.out _ _ (kp2 x0 x1 hk) (fun _ => ?_)
                  clear hK K
                  try simp only [Act.put, List.setIfInBounds_toArray, List.set_cons_zero, List.set_cons_succ]
                  refine wpAnyH_ready (rs := [8]) (by kernel_rfl) (by simp) ?_
                  refine AllReadyH.cons (o := _) rfl (fun K hK => ?_) AllReadyH.nil
                  refine step_store _ _ rfl rfl rfl gA pb Kb.length cb rfl rfl FA ?_
                  intro w5 e5
                  have FB5 : Fr w5 gB := by rw [e5.out]; exact Fr.set FB (Ne.symm hne)
                  have hk5 : Below W4.heap.size W4 w5 := by rw [e5.out]; exact kb_set' hk hgA
                  refine hK.out _ _ (kp2 x0 x1 hk5) (fun _ => ?_)
                  clear hK K
                  try simp only [Act.put, List.setIfInBounds_toArray, List.set_cons_zero, List.set_cons_succ]
                  refine wpAnyH_ready (rs := [9]) (by kernel_rfl) (by simp) ?_
                  refine AllReadyH.cons (o := _) rfl (fun K hK => ?_) AllReadyH.nil
                  refine step_store _ _ rfl rfl rfl gB pr Kr.length cr rfl rfl FB5 ?_
                  intro w6 e6
                  have hk6 : Below W4.heap.size W4 w6 := by rw [e6.out]; exact kb_set' hk5 hgB
                  refine hK.out _ _ (kp2 x0 x1 hk6) (fun _ => ?_)
                  clear hK K
                  try simp only [Act.put, List.setIfInBounds_toArray, List.set_cons_zero, List.set_cons_succ]
                  refine wpAnyH_done (by kernel_rfl) ?_ _
                  try simp only [Act.put, List.getElem_toArray, List.getElem_cons_succ, List.getElem_cons_zero, List.setIfInBounds_toArray, List.set_cons_zero, List.set_cons_succ]
                  go_wp2_with fail
                  go_meet
                  case rel => exact two_end FA FB hne IB.out IR.out hk hgA hgB e5.out e6.out
                refine AllReadyH.cons (o := _) rfl (fun K hK => ?_) AllReadyH.nil
                refine step_alloc 11 rfl rfl rfl ?_
                intro gB y2 FB' eB hb
                have hgB : W4.heap.size ≤ gB := by rw [eB]; exact hk.size
                have hne : gA ≠ gB := by have h9 := Fr.lt FA; omega
                clear eB
                replace FA := Fr.below FA hb
                replace IB := Lib.hid (IsSet.below IB.out hb (Nat.le_refl _))
                replace hk := kc hb hk
                clear hb
                have FB := FB'
                clear FB'
                refine hK.out _ _ (kp2 x0 x1 hk) (fun _ => ?_)
                clear hK K
                try simp only [Act.put, List.setIfInBounds_toArray, List.set_cons_zero, List.set_cons_succ]
                refine wpAnyH_ready (rs := [5]) (by kernel_rfl) (by simp) ?_
                refine AllReadyH.cons (o := _) rfl (fun K hK => ?_) AllReadyH.nil
                go_simp
                go_at_call 19
                refine (MinusK (S0.out.below hk (Nat.le_refl _)) (S1.out.below hk (Nat.le_refl _)) (by omega) (by omega)).mono ?_
                rintro e y3 ⟨u, rfl, ⟨Kr, pr, cr, rfl, kk⟩, hb, fb⟩
                replace FA := Fr.below FA hb
                replace FB := Fr.below FB hb
                replace IB := Lib.hid (IsSet.below IB.out hb (Nat.le_refl _))
                replace hk := kc hb hk
                clear hb
                have IR : Hid (IsSet y3 (2 * (2 * n) + 2 * (2 * m)) (fun d => hasB L d && !hasB M d) (.agg #[.slice pr Kr.length cr])) := Lib.hid ⟨Kr, pr, cr, rfl, kk⟩
                clear kk fb
                refine hK.out _ _ (kp2 x0 x1 hk) (fun _ => ?_)
                clear hK K
                try simp only [Act.put, List.setIfInBounds_toArray, List.set_cons_zero, List.set_cons_succ]
                refine wpAnyH_ready (rs := [8]) (by kernel_rfl) (by simp) ?_
                refine AllReadyH.cons (o := _) rfl (fun K hK => ?_) AllReadyH.nil
                refine step_store _ _ rfl rfl rfl gA pb Kb.length cb rfl rfl FA ?_
                intro w5 e5
                have FB5 : Fr w5 gB := by rw [e5.out]; exact Fr.set FB (Ne.symm hne)
                have hk5 : Below W4.heap.size W4 w5 := by rw [e5.out]; exact kb_set' hk hgA
                refine hK.out _ _ (kp2 x0 x1 hk5) (fun _ => ?_)
                clear hK K
                try simp only [Act.put, List.setIfInBounds_toArray, List.set_cons_zero, List.set_cons_succ]
                refine wpAnyH_ready (rs := [9]) (by kernel_rfl) (by simp) ?_
                refine AllReadyH.cons (o := _) rfl (fun K hK => ?_) AllReadyH.nil
                refine step_store _ _ rfl rfl rfl gB pr Kr.length cr rfl rfl FB5 ?_
                intro w6 e6
                have hk6 : Below W4.heap.size W4 w6 := by rw [e6.out]; exact kb_set' hk5 hgB
                refine hK.out _ _ (kp2 x0 x1 hk6) (fun _ => ?_)
                clear hK K
                try simp only [Act.put, List.setIfInBounds_toArray, List.set_cons_zero, List.set_cons_succ]
                refine wpAnyH_done (by kernel_rfl) ?_ _
                try simp only [Act.put, List.getElem_toArray, List.getElem_cons_succ, List.getElem_cons_zero, List.setIfInBounds_toArray, List.set_cons_zero, List.set_cons_succ]
                go_wp2_with fail
                go_meet
                case rel => exact two_end FA FB hne IB.out IR.out hk hgA hgB e5.out e6.out
              refine AllReadyH.cons (o := _) rfl (fun K hK => ?_) AllReadyH.nil
              refine step_alloc 11 rfl rfl rfl ?_
              intro gB y1 FB' eB hb
              have hgB : W4.heap.size ≤ gB := by rw [eB]; exact hk.size
              have hne : gA ≠ gB := by have h9 := Fr.lt FA; omega
              clear eB
              replace FA := Fr.below FA hb
              replace hk := kc hb hk
              clear hb
              have FB := FB'
              clear FB'
              refine hK.out _ _ (kp2 x0 x1 hk) (fun _ => ?_)
              clear hK K
              try simp only [Act.put, List.setIfInBounds_toArray, List.set_cons_zero, List.set_cons_succ]
              refine wpAnyH_ready (rs := [2]) (by kernel_rfl) (by simp) ?_
              refine AllReadyH.cons (o := _) rfl (fun K hK => ?_) AllReadyH.nil
              go_simp
              go_at_call 18
              refine (MeetK (S0.out.below hk (Nat.le_refl _)) (S1.out.below hk (Nat.le_refl _)) (by omega) (by omega)).mono ?_
              rintro e y2 ⟨u, rfl, ⟨Kb, pb, cb, rfl, kk⟩, hb, fb⟩
              replace FA := Fr.below FA hb
              replace FB := Fr.below FB hb
              replace hk := kc hb hk
              clear hb
              have IB : Hid (IsSet y2 (2 * (2 * n) + 2 * (2 * m)) (fun d => hasB L d && hasB M d) (.agg #[.slice pb Kb.length cb])) := Lib.hid ⟨Kb, pb, cb, rfl, kk⟩
              clear kk fb
              refine hK.out _ _ (kp2 x0 x1 hk) (fun _ => ?_)
              clear hK K
              try simp only [Act.put, List.setIfInBounds_toArray, List.set_cons_zero, List.set_cons_succ]
              refine wpAnyH_ready (rs := [5]) (by kernel_rfl) (by simp) ?_
              refine AllReadyH.cons (o := _) rfl (fun K hK => ?_) AllReadyH.nil
              go_simp
              go_at_call 19
              refine (MinusK (S0.out.below hk (Nat.le_refl _)) (S1.out.below hk (Nat.le_refl _)) (by omega) (by omega)).mono ?_
              rintro e y3 ⟨u, rfl, ⟨Kr, pr, cr, rfl, kk⟩, hb, fb⟩
              replace FA := Fr.below FA hb
              replace FB := Fr.below FB hb
              replace IB := Lib.hid (IsSet.below IB.out hb (Nat.le_refl _))
              replace hk := kc hb hk
              clear hb
              have IR : Hid (IsSet y3 (2 * (2 * n) + 2 * (2 * m)) (fun d => hasB L d && !hasB M d) (.agg #[.slice pr Kr.length cr])) := Lib.hid ⟨Kr, pr, cr, rfl, kk⟩
              clear kk fb
              refine hK.out _ _ (kp2 x0 x1 hk) (fun _ => ?_)
              clear hK K
              try simp only [Act.put, List.setIfInBounds_toArray, List.set_cons_zero, List.set_cons_succ]
              refine wpAnyH_ready (rs := [8]) (by kernel_rfl) (by simp) ?_
              refine AllReadyH.cons (o := _) rfl (fun K hK => ?_) AllReadyH.nil
              refine step_store _ _ rfl rfl rfl gA pb Kb.length cb rfl rfl FA ?_
              intro w5 e5
              have FB5 : Fr w5 gB := by rw [e5.out]; exact Fr.set FB (Ne.symm hne)
              have hk5 : Below W4.heap.size W4 w5 := by rw [e5.out]; exact kb_set' hk hgA
              refine hK.out _ _ (kp2 x0 x1 hk5) (fun _ => ?_)
              clear hK K
              try simp only [Act.put, List.setIfInBounds_toArray, List.set_cons_zero, List.set_cons_succ]
              refine wpAnyH_ready (rs := [9]) (by kernel_rfl) (by simp) ?_
              refine AllReadyH.cons (o := _) rfl (fun K hK => ?_) AllReadyH.nil
              refine step_store _ _ rfl rfl rfl gB pr Kr.length cr rfl rfl FB5 ?_
              intro w6 e6
              have hk6 : Below W4.heap.size W4 w6 := by rw [e6.out]; exact kb_set' hk5 hgB
              refine hK.out _ _ (kp2 x0 x1 hk6) (fun _ => ?_)
              clear hK K
              try simp only [Act.put, List.setIfInBounds_toArray, List.set_cons_zero, List.set_cons_succ]
              refine wpAnyH_done (by kernel_rfl) ?_ _
              try simp only [Act.put, List.getElem_toArray, List.getElem_cons_succ, List.getElem_cons_zero, List.setIfInBounds_toArray, List.set_cons_zero, List.set_cons_succ]
              go_wp2_with fail
              go_meet
              case rel => exact two_end FA FB hne IB.out IR.out hk hgA hgB e5.out e6.out
            refine AllReadyH.cons (o := _) rfl (fun K hK => ?_) AllReadyH.nil
            refine step_alloc 11 rfl rfl rfl ?_
            intro gB y0 FB' eB hb
            have hgB : W4.heap.size ≤ gB := by rw [eB]; exact hk.size
            clear eB
            replace hk := kc hb hk
            clear hb
            have FB := FB'
            clear FB'
            refine hK.out _ _ (kp2 x0 x1 hk) (fun _ => ?_)
            clear hK K
            try simp only [Act.put, List.setIfInBounds_toArray, List.set_cons_zero, List.set_cons_succ]
            refine wpAnyH_ready (rs := [2,6]) (by kernel_rfl) (by simp) ?_
            refine AllReadyH.cons (o := _) rfl (fun K hK => ?_) ?_
            · go_simp
              go_at_call 18
              refine (MeetK (S0.out.below hk (Nat.le_refl _)) (S1.out.below hk (Nat.le_refl _)) (by omega) (by omega)).mono ?_
              rintro e y1 ⟨u, rfl, ⟨Kb, pb, cb, rfl, kk⟩, hb, fb⟩
              replace FB := Fr.below FB hb
              replace hk := kc hb hk
              clear hb
              have IB : Hid (IsSet y1 (2 * (2 * n) + 2 * (2 * m)) (fun d => hasB L d && hasB M d) (.agg #[.slice pb Kb.length cb])) := Lib.hid ⟨Kb, pb, cb, rfl, kk⟩
              clear kk fb
              refine hK.out _ _ (kp2 x0 x1 hk) (fun _ => ?_)
              clear hK K
              try simp only [Act.put, List.setIfInBounds_toArray, List.set_cons_zero, List.set_cons_succ]
              refine wpAnyH_ready (rs := [5,6]) (by kernel_rfl) (by simp) ?_
              refine AllReadyH.cons (o := _) rfl (fun K hK => ?_) ?_
              · go_simp
                go_at_call 19
                refine (MinusK (S0.out.below hk (Nat.le_refl _)) (S1.out.below hk (Nat.le_refl _)) (by omega) (by omega)).mono ?_
                rintro e y2 ⟨u, rfl, ⟨Kr, pr, cr, rfl, kk⟩, hb, fb⟩
                replace FB := Fr.below FB hb
                replace IB := Lib.hid (IsSet.below IB.out hb (Nat.le_refl _))
                replace hk := kc hb hk
                clear hb
                have IR : Hid (IsSet y2 (2 * (2 * n) + 2 * (2 * m)) (fun d => hasB L d && !hasB M d) (.agg #[.slice pr Kr.length cr])) := Lib.hid ⟨Kr, pr, cr, rfl, kk⟩
                clear kk fb
                refine hK.out _ _ (kp2 x0 x1 hk) (fun _ => ?_)
                clear hK K
                try simp only [Act.put, List.setIfInBounds_toArray, List.set_cons_zero, List.set_cons_succ]
                refine wpAnyH_ready (rs := [6]) (by kernel_rfl) (by simp) ?_
                refine AllReadyH.cons (o := _) rfl (fun K hK => ?_) AllReadyH.nil
                refine step_alloc 10 rfl rfl rfl ?_
                intro gA y3 FA' eA hb
                have hgA : W4.heap.size ≤ gA := by rw [eA]; exact hk.size
                have hne : gA ≠ gB := by have h9 := Fr.lt FB; omega
                clear eA
                replace FB := Fr.below FB hb
                replace IB := Lib.hid (IsSet.below IB.out hb (Nat.le_refl _))
                replace IR := Lib.hid (IsSet.below IR.out hb (Nat.le_refl _))
                replace hk := kc hb hk
                clear hb
                have FA := FA'
                clear FA'
                refine hK.out _ _ (kp2 x0 x1 hk) (fun _ => ?_)
                clear hK K
                try simp only [Act.put, List.setIfInBounds_toArray, List.set_cons_zero, List.set_cons_succ]
                refine wpAnyH_ready (rs := [8]) (by kernel_rfl) (by simp) ?_
                refine AllReadyH.cons (o := _) rfl (fun K hK => ?_) AllReadyH.nil
                refine step_store _ _ rfl rfl rfl gA pb Kb.length cb rfl rfl FA ?_
                intro w5 e5
                have FB5 : Fr w5 gB := by rw [e5.out]; exact Fr.set FB (Ne.symm hne)
                have hk5 : Below W4.heap.size W4 w5 := by rw [e5.out]; exact kb_set' hk hgA
                refine hK.out _ _ (kp2 x0 x1 hk5) (fun _ => ?_)
                clear hK K
                try simp only [Act.put, List.setIfInBounds_toArray, List.set_cons_zero, List.set_cons_succ]
                refine wpAnyH_ready (rs := [9]) (by kernel_rfl) (by simp) ?_
                refine AllReadyH.cons (o := _) rfl (fun K hK => ?_) AllReadyH.nil
                refine step_store _ _ rfl rfl rfl gB pr Kr.length cr rfl rfl FB5 ?_
                intro w6 e6
                have hk6 : Below W4.heap.size W4 w6 := by rw [e6.out]; exact kb_set' hk5 hgB
                refine hK.out _ _ (kp2 x0 x1 hk6) (fun _ => ?_)
                clear hK K
                try simp only [Act.put, List.setIfInBounds_toArray, List.set_cons_zero, List.set_cons_succ]
                refine wpAnyH_done (by kernel_rfl) ?_ _
                try simp only [Act.put, List.getElem_toArray, List.getElem_cons_succ, List.getElem_cons_zero, List.setIfInBounds_toArray, List.set_cons_zero, List.set_cons_succ]
                go_wp2_with fail
                go_meet
                case rel => exact two_end FA FB hne IB.out IR.out hk hgA hgB e5.out e6.out
              refine AllReadyH.cons (o := _) rfl (fun K hK => ?_) AllReadyH.nil
              refine step_alloc 10 rfl rfl rfl ?_
              intro gA y2 FA' eA hb
              have hgA : W4.heap.size ≤ gA := by rw [eA]; exact hk.size
              have hne : gA ≠ gB := by have h9 := Fr.lt FB; omega
              clear eA
              replace FB := Fr.below FB hb
              replace IB := Lib.hid (IsSet.below IB.out hb (Nat.le_refl _))
              replace hk := kc hb hk
              clear hb
              have FA := FA'
              clear FA'
              refine hK.out _ _ (kp2 x0 x1 hk) (fun _ => ?_)
              clear hK K
              try simp only [Act.put, List.setIfInBounds_toArray, List.set_cons_zero, List.set_cons_succ]
              refine wpAnyH_ready (rs := [5]) (by kernel_rfl) (by simp) ?_
              refine AllReadyH.cons (o := _) rfl (fun K hK => ?_) AllReadyH.nil
              go_simp
              go_at_call 19
              refine (MinusK (S0.out.below hk (Nat.le_refl _)) (S1.out.below hk (Nat.le_refl _)) (by omega) (by omega)).mono ?_
              rintro e y3 ⟨u, rfl, ⟨Kr, pr, cr, rfl, kk⟩, hb, fb⟩
              replace FA := Fr.below FA hb
              replace FB := Fr.below FB hb
              replace IB := Lib.hid (IsSet.below IB.out hb (Nat.le_refl _))
              replace hk := kc hb hk
              clear hb
              have IR : Hid (IsSet y3 (2 * (2 * n) + 2 * (2 * m)) (fun d => hasB L d && !hasB M d) (.agg #[.slice pr Kr.length cr])) := Lib.hid ⟨Kr, pr, cr, rfl, kk⟩
              clear kk fb
              refine hK.out _ _ (kp2 x0 x1 hk) (fun _ => ?_)
              clear hK K
              try simp only [Act.put, List.setIfInBounds_toArray, List.set_cons_zero, List.set_cons_succ]
              refine wpAnyH_ready (rs := [8]) (by kernel_rfl) (by simp) ?_
              refine AllReadyH.cons (o := _) rfl (fun K hK => ?_) AllReadyH.nil
              refine step_store _ _ rfl rfl rfl gA pb Kb.length cb rfl rfl FA ?_
              intro w5 e5
              have FB5 : Fr w5 gB := by rw [e5.out]; exact Fr.set FB (Ne.symm hne)
              have hk5 : Below W4.heap.size W4 w5 := by rw [e5.out]; exact kb_set' hk hgA
              refine hK.out _ _ (kp2 x0 x1 hk5) (fun _ => ?_)
              clear hK K
              try simp only [Act.put, List.setIfInBounds_toArray, List.set_cons_zero, List.set_cons_succ]
              refine wpAnyH_ready (rs := [9]) (by kernel_rfl) (by simp) ?_
              refine AllReadyH.cons (o := _) rfl (fun K hK => ?_) AllReadyH.nil
              refine step_store _ _ rfl rfl rfl gB pr Kr.length cr rfl rfl FB5 ?_
              intro w6 e6
              have hk6 : Below W4.heap.size W4 w6 := by rw [e6.out]; exact kb_set' hk5 hgB
              refine hK.out _ _ (kp2 x0 x1 hk6) (fun _ => ?_)
              clear hK K
              try simp only [Act.put, List.setIfInBounds_toArray, List.set_cons_zero, List.set_cons_succ]
              refine wpAnyH_done (by kernel_rfl) ?_ _
              try simp only [Act.put, List.getElem_toArray, List.getElem_cons_succ, List.getElem_cons_zero, List.setIfInBounds_toArray, List.set_cons_zero, List.set_cons_succ]
              go_wp2_with fail
              go_meet
              case rel => exact two_end FA FB hne IB.out IR.out hk hgA hgB e5.out e6.out
            refine AllReadyH.cons (o := _) rfl (fun K hK => ?_) AllReadyH.nil
            refine step_alloc 10 rfl rfl rfl ?_
            intro gA y1 FA' eA hb
            have hgA : W4.heap.size ≤ gA := by rw [eA]; exact hk.size
            have hne : gA ≠ gB := by have h9 := Fr.lt FB; omega
            clear eA
            replace FB := Fr.below FB hb
            replace hk := kc hb hk
            clear hb
            have FA := FA'
            clear FA'
            refine hK.out _ _ (kp2 x0 x1 hk) (fun _ => ?_)
            clear hK K
            try simp only [Act.put, List.setIfInBounds_toArray, List.set_cons_zero, List.set_cons_succ]
            refine wpAnyH_ready (rs := [2]) (by kernel_rfl) (by simp) ?_
            refine AllReadyH.cons (o := _) rfl (fun K hK => ?_) AllReadyH.nil
            go_simp
            go_at_call 18
            refine (MeetK (S0.out.below hk (Nat.le_refl _)) (S1.out.below hk (Nat.le_refl _)) (by omega) (by omega)).mono ?_
            rintro e y2 ⟨u, rfl, ⟨Kb, pb, cb, rfl, kk⟩, hb, fb⟩
            replace FA := Fr.below FA hb
            replace FB := Fr.below FB hb
            replace hk := kc hb hk
            clear hb
            have IB : Hid (IsSet y2 (2 * (2 * n) + 2 * (2 * m)) (fun d => hasB L d && hasB M d) (.agg #[.slice pb Kb.length cb])) := Lib.hid ⟨Kb, pb, cb, rfl, kk⟩
            clear kk fb
            refine hK.out _ _ (kp2 x0 x1 hk) (fun _ => ?_)
            clear hK K
            try simp only [Act.put, List.setIfInBounds_toArray, List.set_cons_zero, List.set_cons_succ]
            refine wpAnyH_ready (rs := [5]) (by kernel_rfl) (by simp) ?_
            refine AllReadyH.cons (o := _) rfl (fun K hK => ?_) AllReadyH.nil
            go_simp
            go_at_call 19
            refine (MinusK (S0.out.below hk (Nat.le_refl _)) (S1.out.below hk (Nat.le_refl _)) (by omega) (by omega)).mono ?_
            rintro e y3 ⟨u, rfl, ⟨Kr, pr, cr, rfl, kk⟩, hb, fb⟩
            replace FA := Fr.below FA hb
            replace FB := Fr.below FB hb
            replace IB := Lib.hid (IsSet.below IB.out hb (Nat.le_refl _))
            replace hk := kc hb hk
            clear hb
            have IR : Hid (IsSet y3 (2 * (2 * n) + 2 * (2 * m)) (fun d => hasB L d && !hasB M d) (.agg #[.slice pr Kr.length cr])) := Lib.hid ⟨Kr, pr, cr, rfl, kk⟩
            clear kk fb
            refine hK.out _ _ (kp2 x0 x1 hk) (fun _ => ?_)
            clear hK K
            try simp only [Act.put, List.setIfInBounds_toArray, List.set_cons_zero, List.set_cons_succ]
            refine wpAnyH_ready (rs := [8]) (by kernel_rfl) (by simp) ?_
            refine AllReadyH.cons (o := _) rfl (fun K hK => ?_) AllReadyH.nil
            refine step_store _ _ rfl rfl rfl gA pb Kb.length cb rfl rfl FA ?_
            intro w5 e5
            have FB5 : Fr w5 gB := by rw [e5.out]; exact Fr.set FB (Ne.symm hne)
            have hk5 : Below W4.heap.size W4 w5 := by rw [e5.out]; exact kb_set' hk hgA
            refine hK.out _ _ (kp2 x0 x1 hk5) (fun _ => ?_)
            clear hK K
            try simp only [Act.put, List.setIfInBounds_toArray, List.set_cons_zero, List.set_cons_succ]
            refine wpAnyH_ready (rs := [9]) (by kernel_rfl) (by simp) ?_
            refine AllReadyH.cons (o := _) rfl (fun K hK => ?_) AllReadyH.nil
            refine step_store _ _ rfl rfl rfl gB pr Kr.length cr rfl rfl FB5 ?_
            intro w6 e6
            have hk6 : Below W4.heap.size W4 w6 := by rw [e6.out]; exact kb_set' hk5 hgB
            refine hK.out _ _ (kp2 x0 x1 hk6) (fun _ => ?_)
            clear hK K
            try simp only [Act.put, List.setIfInBounds_toArray, List.set_cons_zero, List.set_cons_succ]
            refine wpAnyH_done (by kernel_rfl) ?_ _
            try simp only [Act.put, List.getElem_toArray, List.getElem_cons_succ, List.getElem_cons_zero, List.setIfInBounds_toArray, List.set_cons_zero, List.set_cons_succ]
            go_wp2_with fail
            go_meet
            case rel => exact two_end FA FB hne IB.out IR.out hk hgA hgB e5.out e6.out
          case rest =>
            obtain ⟨g, h, pb, nb, cb, pr, nr, cr, rfl, rfl, y2, y3, HB, HR, hbk⟩ := hcut
            obtain ⟨b, r, s, t, u, z, DB, DR, DS, DT, DU, wq1, wq2, wq3⟩ := dns_of (near_of HN.out HFL.out) (near_of HMn.out HFM.out)
            have y0 := (kp1 x0 hbk).1
            have y1 := (kp1 x1 hbk).1
            have C0 : Hid (IsSet wc (2 * n) (fun d => hasB L d) (.agg #[.slice p0 K0.length c0])) := Lib.hid (IsSet.below S0.out hbk (Nat.le_refl _))
            have C1 : Hid (IsSet wc (2 * m) (fun d => hasB M d) (.agg #[.slice p1 K1.length c1])) := Lib.hid (IsSet.below S1.out hbk (Nat.le_refl _))
            have hb8 := hb7.trans (hbk.mono hb7.size)
            clear x0 x1 S0 S1 hbk HFL HFM HN HMn hb7 hb9
            go_wp2
            go_region_held3 (fun w' => (w'.cell? ⟨u1.heap.size, 0, none⟩ = some (.slice p0 K0.length c0) ∧ w'.cell? ⟨u1.heap.size + 1, 0, none⟩ = some (.slice p1 K1.length c1) ∧ w'.cell? ⟨g, 0, none⟩ = some (.slice pb nb cb) ∧ w'.cell? ⟨h, 0, none⟩ = some (.slice pr nr cr)) ∧ Below wc.heap.size wc w') (first | exact kp4 y0 y1 y2 y3 kb_drew | exact kp4 y0 y1 y2 y3 (by assumption)) (first | (go_at_call 16; refine (UnionK (by first | assumption | exact IsSet.below (by assumption) (by assumption) (Nat.le_refl _) | exact HB.out.kp (by assumption) | exact HR.out.kp (by assumption) | exact C0.out.kp (by assumption) | exact C1.out.kp (by assumption)) (by first | assumption | exact IsSet.below (by assumption) (by assumption) (Nat.le_refl _) | exact HB.out.kp (by assumption) | exact HR.out.kp (by assumption) | exact C0.out.kp (by assumption) | exact C1.out.kp (by assumption)) (by omega) (by omega)).mono ?_; rintro e wx ⟨vx, rfl, hsx, hbx, -⟩; have hkx : Below wc.heap.size wc wx := kb_call hbx (by assumption); try (have hlx := SpansIn.below (by assumption) hbx (Nat.le_refl _))) | (go_at_call 18; refine (MeetK (by first | assumption | exact IsSet.below (by assumption) (by assumption) (Nat.le_refl _) | exact HB.out.kp (by assumption) | exact HR.out.kp (by assumption) | exact C0.out.kp (by assumption) | exact C1.out.kp (by assumption)) (by first | assumption | exact IsSet.below (by assumption) (by assumption) (Nat.le_refl _) | exact HB.out.kp (by assumption) | exact HR.out.kp (by assumption) | exact C0.out.kp (by assumption) | exact C1.out.kp (by assumption)) (by omega) (by omega)).mono ?_; rintro e wx ⟨vx, rfl, hsx, hbx, -⟩; have hkx : Below wc.heap.size wc wx := kb_call hbx (by assumption); try (have hlx := SpansIn.below (by assumption) hbx (Nat.le_refl _))) | (go_at_call 15; refine (AllNoK (by first | assumption | exact IsSet.below (by assumption) (by assumption) (Nat.le_refl _) | exact HB.out.kp (by assumption) | exact HR.out.kp (by assumption) | exact C0.out.kp (by assumption) | exact C1.out.kp (by assumption)) (by omega) (fun d => cut_no (hasB L d) (hasB M d))).mono ?_; rintro e wx ⟨qx, cx, rfl, hbx⟩; have hkx : Below wc.heap.size wc wx := kb_call hbx (by assumption)) | (go_at_call 15; refine (AllK (by first | assumption | exact IsSet.below (by assumption) (by assumption) (Nat.le_refl _) | exact HB.out.kp (by assumption) | exact HR.out.kp (by assumption) | exact C0.out.kp (by assumption) | exact C1.out.kp (by assumption)) (by omega)).mono ?_; rintro e wx ⟨Kx, qx, cx, rfl, kx, mx, ax, lx, sx, hbx⟩; have hkx : Below wc.heap.size wc wx := kb_call hbx (by assumption); try (have hlx := SpansIn.below (by assumption) hbx (Nat.le_refl _))) | (go_at_call 22; refine (DaysK (by first | assumption | exact IsSet.below (by assumption) (by assumption) (Nat.le_refl _) | exact HB.out.kp (by assumption) | exact HR.out.kp (by assumption) | exact C0.out.kp (by assumption) | exact C1.out.kp (by assumption)) (by omega) (by first | exact DB | exact DR | exact DS | exact DT | exact DU)).mono ?_; rintro e wx ⟨rfl, hbx⟩; have hkx : Below wc.heap.size wc wx := kb_call hbx (by assumption)) | (go_at_call 14; refine (SameK (by assumption) (by assumption) (by omega) (canon_eq (by assumption) (by assumption) (by assumption) (by assumption) (fun d => by (try dsimp only); cases hasB L d <;> cases hasB M d <;> rfl))).mono ?_; rintro e wx ⟨rfl, hbx⟩; have hkx : Below wc.heap.size wc wx := kb_call hbx (by assumption)))
            go_wp2
            go_ret
            exact ⟨rfl, hb8.trans (Below.mono (by assumption) hb8.size)⟩

end Go.Proofs.Ytefcadngdcgpiaa
