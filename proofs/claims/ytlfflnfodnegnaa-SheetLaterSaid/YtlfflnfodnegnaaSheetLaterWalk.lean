/-
  What is proved: the walk of the statement SheetLater: the call returns true. Conditions: none beyond what came in.
-/
import Derived.Test.YtlfflnfodnegnaaSkL
import Derived.Test.YtlfflnfodnegnaaFrameK
import Derived.Deep.DeepCutAuto
import Derived.Deep.RegionHeld3
namespace Go.Proofs.Ytlfflnfodnegnaa
open Go Go.RowKit Go.Proofs
set_option linter.unusedVariables false
set_option linter.unusedSimpArgs false

set_option maxHeartbeats 8000000 in
set_option maxRecDepth 100000 in
theorem walkSheetLater (a : Option Addr) (n c : Nat) (f : Nat → En) (x : En) (D W s t : Int) (w : World) (hA : EntsArg w a n c f) (hx : in64 x.1 ∧ in64 x.2.1 ∧ in64 x.2.2) (D64 : in64 D) (W64 : in64 W) (s64 : in64 s) (t64 : in64 t) :
    Calls Try.prog 6 #[.slice a n c, .agg #[.int .i64 x.1, .int .i64 x.2.1, .int .i64 x.2.2], .agg #[.int .i64 D, .int .i64 W], .agg #[.int .i64 s, .int .i64 t]] w fun e w' => e = .returned (.bool true) ∧ Below w.heap.size w w' := by
  obtain ⟨hE, -, -⟩ := hA
  obtain ⟨W3, hW3⟩ : ∃ W3, W3 = ((w.alloc (.cells #[.int .i64 x.1, .int .i64 x.2.1, .int .i64 x.2.2] 46)).alloc (.cells #[.int .i64 D, .int .i64 W] 24)).alloc (.cells #[.int .i64 s, .int .i64 t] 27) := ⟨_, rfl⟩
  have hz3 : W3.heap.size = w.heap.size + 1 + 1 + 1 := by rw [hW3]; simp
  have hb0 : Below w.heap.size w W3 := by rw [hW3]; exact (((Below.refl w.heap.size w).alloc (Nat.le_refl _) _).alloc (by simp) _).alloc (by simp; omega) _
  have hc : (W3.cell? ⟨w.heap.size, 0, none⟩ = some (.int .i64 x.1) ∧ W3.cell? ⟨w.heap.size, 1, none⟩ = some (.int .i64 x.2.1) ∧ W3.cell? ⟨w.heap.size, 2, none⟩ = some (.int .i64 x.2.2)) ∧ (W3.cell? ⟨w.heap.size + 1, 0, none⟩ = some (.int .i64 D) ∧ W3.cell? ⟨w.heap.size + 1, 1, none⟩ = some (.int .i64 W)) ∧ W3.cell? ⟨w.heap.size + 1 + 1, 0, none⟩ = some (.int .i64 s) ∧ W3.cell? ⟨w.heap.size + 1 + 1, 1, none⟩ = some (.int .i64 t) := by
    obtain ⟨Wa, hWa⟩ : ∃ Wa, Wa = w.alloc (.cells #[.int .i64 x.1, .int .i64 x.2.1, .int .i64 x.2.2] 46) := ⟨_, rfl⟩
    obtain ⟨Wb, hWb⟩ : ∃ Wb, Wb = Wa.alloc (.cells #[.int .i64 D, .int .i64 W] 24) := ⟨_, rfl⟩
    have za : Wa.heap.size = w.heap.size + 1 := by rw [hWa]; simp
    have zb : Wb.heap.size = w.heap.size + 1 + 1 := by rw [hWb, World.size_alloc, za]
    have e1 : ∀ j, W3.cell? ⟨w.heap.size, j, none⟩ = Wa.cell? ⟨w.heap.size, j, none⟩ := fun j => by
      rw [hW3, ← hWa, ← hWb, World.cell?_alloc_lt _ _ _ (by show w.heap.size < _; omega), hWb, World.cell?_alloc_lt _ _ _ (by show w.heap.size < _; omega)]
    have e2 : ∀ j, W3.cell? ⟨w.heap.size + 1, j, none⟩ = Wb.cell? ⟨Wa.heap.size, j, none⟩ := fun j => by
      rw [hW3, ← hWa, ← hWb, World.cell?_alloc_lt _ _ _ (by show w.heap.size + 1 < _; omega), za]
    have e3 : ∀ j, W3.cell? ⟨w.heap.size + 1 + 1, j, none⟩ = #[Value.int .i64 s, .int .i64 t][j]? := fun j => by
      rw [hW3, ← hWa, ← hWb, ← zb, new_at]
    refine ⟨⟨?_, ?_, ?_⟩, ⟨?_, ?_⟩, ?_, ?_⟩
    · rw [e1, hWa, new_at]; rfl
    · rw [e1, hWa, new_at]; rfl
    · rw [e1, hWa, new_at]; rfl
    · rw [e2, hWb, new_at]; rfl
    · rw [e2, hWb, new_at]; rfl
    · rw [e3]; rfl
    · rw [e3]; rfl
  obtain ⟨⟨c0, c1, c2⟩, ⟨c3, c4⟩, c5, c6⟩ := hc
  have HA := Lib.hid (awake_any W3)
  have HE := Lib.hid hE
  clear hE hx
  go_enter Try.func6, Try.ntmps6
  go_wp2_with fail
  rw [← hW3]
  clear hW3
  refine (HA.out).mono ?_
  rintro e w3 ⟨rfl, hb3⟩
  replace c0 := stay hb3 c0
  replace c1 := stay hb3 c1
  replace c2 := stay hb3 c2
  replace c3 := stay hb3 c3
  replace c4 := stay hb3 c4
  replace c5 := stay hb3 c5
  replace c6 := stay hb3 c6
  have HB := Lib.hid (hb0.trans (hb3.mono (by omega)))
  have HEn := Lib.hid (HE.out.below HB.out)
  clear hb3 hb0 HA HE
  by_cases h300 : 300 < n
  · have hI : (300 : Int) < (n : Int) := by omega
    go_wp2
    go_ret
    exact ⟨rfl, HB.out⟩
  have hI : ¬ (300 : Int) < (n : Int) := by omega
  by_cases hxt : x.1 < t
  · go_wp2
    go_ret
    exact ⟨rfl, HB.out⟩
  obtain ⟨C1, hC1⟩ : ∃ C, C = chk f n D W := ⟨_, rfl⟩
  obtain ⟨R1, hR1⟩ : ∃ R, R = sumR f n D W s t := ⟨_, rfl⟩
  have HS := Sum_any f a n c D W s t w3 HEn.out
  rw [← hC1, ← hR1] at HS
  replace HS := Lib.hid HS
  have hn3 : n ≤ 300 := by omega
  obtain ⟨L, hL⟩ : ∃ L : List En, L = lsE f n ++ lsE (fun _ => x) 1 := ⟨_, rfl⟩
  have hLl : L.length = n + 1 := by rw [hL, List.length_append, lsE_len, lsE_len]
  obtain ⟨gL, hgL⟩ : ∃ g : Nat → En, g = fun j => L.getD j (0, 0, 0) := ⟨_, rfl⟩
  have hg1 : ∀ j, j < n → f j = gL j := fun j hj => by
    rw [hgL]
    show f j = L.getD j (0, 0, 0)
    rw [hL, ← lsE_at f hj]
    simp only [List.getD]
    rw [List.getElem?_append_left (by rw [lsE_len]; exact hj)]
  have hg2 : gL n = x := by
    rw [hgL]
    show L.getD n (0, 0, 0) = x
    rw [hL]
    simp only [List.getD]
    rw [List.getElem?_append_right (by rw [lsE_len]; exact Nat.le_refl _), lsE_len, Nat.sub_self]
    rfl
  obtain ⟨C2, hC2⟩ : ∃ C, C = chk gL (n + 1) D W := ⟨_, rfl⟩
  obtain ⟨R2, hR2⟩ : ∃ R, R = sumR gL (n + 1) D W s t := ⟨_, rfl⟩
  have HEQ : Hid (C1 = 0 → C2 = 0 → R1 = R2) := Lib.hid (fun h1 h2 => by
    rw [hR1, hR2]
    unfold sumR
    rw [if_pos (hC1.symm.trans h1), if_pos (hC2.symm.trans h2)]
    exact (sum_later s t hg1 (by rw [hg2]; omega)).symm)
  have HS2 : Hid (∀ V p cc, V.ownsRow p 46 3 cc (n + 1) (hrC L) → ∀ q c3, cc = .slice q (n + 1) c3 → Calls Try.prog 10 #[.slice q (n + 1) c3, .agg #[.int .i64 D, .int .i64 W], .agg #[.int .i64 s, .int .i64 t]] V fun e w' => e = .returned (.tuple #[.agg #[.int .i64 R2.1, .int .i64 R2.2.1, .int .i64 R2.2.2], .int .i64 C2]) ∧ Below V.heap.size V w') := Lib.hid (fun V B cc hO q c3 hcc => by
    subst hcc
    have h := hrs_own (L := L) (by rw [hLl]; exact hO)
    rw [hLl] at h
    have := Sum_any gL q (n + 1) c3 D W s t V (by rw [hgL]; exact h)
    rwa [← hC2, ← hR2] at this)
  have HLL := Lib.hid hL
  clear hC1 hR1 hC2 hR2 hgL hg1 hg2 hL hLl
  go_wp2_with fail
  refine (HS.out).mono ?_
  rintro e w5 ⟨rfl, hb5⟩
  replace c0 := stay hb5 c0
  replace c1 := stay hb5 c1
  replace c2 := stay hb5 c2
  replace c3 := stay hb5 c3
  replace c4 := stay hb5 c4
  replace c5 := stay hb5 c5
  replace c6 := stay hb5 c6
  obtain ⟨W4, hW4⟩ : ∃ V, V = w5.alloc (.cells #[.int .i64 R1.1, .int .i64 R1.2.1, .int .i64 R1.2.2] 30) := ⟨_, rfl⟩
  have hb4 : Below w5.heap.size w5 W4 := by rw [hW4]; exact (Below.refl _ _).alloc (Nat.le_refl _) _
  have X1 := HrBox.new w5 R1 30
  rw [← hW4] at X1
  obtain ⟨g1, hg1⟩ : ∃ g, g = w5.heap.size := ⟨_, rfl⟩
  have HBW := Lib.hid ((HB.out.trans (hb5.mono HB.out.size)).trans (hb4.mono (HB.out.trans (hb5.mono HB.out.size)).size))
  have HE4 := Lib.hid ((HEn.out.below hb5).below hb4)
  replace c0 := stay hb4 c0
  replace c1 := stay hb4 c1
  replace c2 := stay hb4 c2
  replace c3 := stay hb4 c3
  replace c4 := stay hb4 c4
  replace c5 := stay hb4 c5
  replace c6 := stay hb4 c6
  clear hb5 hb4 HEn HB HS
  go_upto_region 6 with fail
  rw [← hW4, ← hg1]
  rw [← hg1] at X1
  clear hW4 hg1
  go_cut [11, 12] (fun s11 s12 wx => NewH W4 wx R2 s11 ∧ s12 = .int .i64 C2)
  case first =>
    have hKP : Hid (∀ w', Below W4.heap.size W4 w' → (w'.cell? ⟨w.heap.size, 0, none⟩ = some (.int .i64 x.1) ∧ w'.cell? ⟨w.heap.size, 1, none⟩ = some (.int .i64 x.2.1) ∧ w'.cell? ⟨w.heap.size, 2, none⟩ = some (.int .i64 x.2.2) ∧ w'.cell? ⟨w.heap.size + 1, 0, none⟩ = some (.int .i64 D) ∧ w'.cell? ⟨w.heap.size + 1, 1, none⟩ = some (.int .i64 W) ∧ w'.cell? ⟨w.heap.size + 1 + 1, 0, none⟩ = some (.int .i64 s) ∧ w'.cell? ⟨w.heap.size + 1 + 1, 1, none⟩ = some (.int .i64 t)) ∧ Below W4.heap.size W4 w') := Lib.hid (fun w' h => ⟨⟨stay h c0, stay h c1, stay h c2, stay h c3, stay h c4, stay h c5, stay h c6⟩, h⟩)
    clear c0 c1 c2 c3 c4 c5 c6 X1
    refine wp_region_held_drew (S := fun w' => (w'.cell? ⟨w.heap.size, 0, none⟩ = some (.int .i64 x.1) ∧ w'.cell? ⟨w.heap.size, 1, none⟩ = some (.int .i64 x.2.1) ∧ w'.cell? ⟨w.heap.size, 2, none⟩ = some (.int .i64 x.2.2) ∧ w'.cell? ⟨w.heap.size + 1, 0, none⟩ = some (.int .i64 D) ∧ w'.cell? ⟨w.heap.size + 1, 1, none⟩ = some (.int .i64 W) ∧ w'.cell? ⟨w.heap.size + 1 + 1, 0, none⟩ = some (.int .i64 s) ∧ w'.cell? ⟨w.heap.size + 1 + 1, 1, none⟩ = some (.int .i64 t)) ∧ Below W4.heap.size W4 w') (by kernel_rfl) (hKP.out _ kf_drew) (fun hHeld => ?_)
    refine wpAnyH_take (i := 1) (oi := { dst := some 34, op := Op.move (Operand.tmp 0), type := 22, pos := "law.go:179", after := #[], guard := none }) (v := ?_) rfl (by kernel_rfl) (by kernel_rfl) (by kernel_rfl) (fun _ _ _ h => h) (Or.inl ⟨by kernel_rfl, ?_⟩) (by assumption) ?_
    rotate_left 1
    · intro w' hSw
      (try dsimp only at hSw)
      obtain ⟨z0, z1, z2, z3, z4, z5, z6⟩ := hSw.1
      clear hSw
      go_simp
      all_goals (with_reducible rfl)
    try (conv => arg 8; simp only [Act.put, List.setIfInBounds_toArray, List.set_cons_zero, List.set_cons_succ])
    refine wpAnyH_take (i := 3) (oi := { dst := some 36, op := Op.load 46 (Operand.tmp 5), type := 46, pos := "law.go:179", after := #[], guard := none }) (v := ?_) rfl (by kernel_rfl) (by kernel_rfl) (by kernel_rfl) (fun _ _ _ h => h) (Or.inl ⟨by kernel_rfl, ?_⟩) (by assumption) ?_
    rotate_left 1
    · intro w' hSw
      (try dsimp only at hSw)
      obtain ⟨z0, z1, z2, z3, z4, z5, z6⟩ := hSw.1
      clear hSw
      go_simp
      all_goals (with_reducible rfl)
    try (conv => arg 8; simp only [Act.put, List.setIfInBounds_toArray, List.set_cons_zero, List.set_cons_succ])
    refine wpAnyH_take (i := 6) (oi := { dst := some 39, op := Op.load 24 (Operand.tmp 6), type := 24, pos := "law.go:179", after := #[], guard := none }) (v := ?_) rfl (by kernel_rfl) (by kernel_rfl) (by kernel_rfl) (fun _ _ _ h => h) (Or.inl ⟨by kernel_rfl, ?_⟩) (by assumption) ?_
    rotate_left 1
    · intro w' hSw
      (try dsimp only at hSw)
      obtain ⟨z0, z1, z2, z3, z4, z5, z6⟩ := hSw.1
      clear hSw
      go_simp
      all_goals (with_reducible rfl)
    try (conv => arg 8; simp only [Act.put, List.setIfInBounds_toArray, List.set_cons_zero, List.set_cons_succ])
    refine wpAnyH_take (i := 7) (oi := { dst := some 40, op := Op.load 27 (Operand.tmp 7), type := 27, pos := "law.go:179", after := #[], guard := none }) (v := ?_) rfl (by kernel_rfl) (by kernel_rfl) (by kernel_rfl) (fun _ _ _ h => h) (Or.inl ⟨by kernel_rfl, ?_⟩) (by assumption) ?_
    rotate_left 1
    · intro w' hSw
      (try dsimp only at hSw)
      obtain ⟨z0, z1, z2, z3, z4, z5, z6⟩ := hSw.1
      clear hSw
      go_simp
      all_goals (with_reducible rfl)
    try (conv => arg 8; simp only [Act.put, List.setIfInBounds_toArray, List.set_cons_zero, List.set_cons_succ])
    clear hHeld
    have hk : Below W4.heap.size W4 W4.drew := kf_drew
    refine wpAnyH_ready (rs := [0,4,12]) (by kernel_rfl) (by simp) ?_
    refine AllReadyH.cons (o := { dst := some 33, op := Op.buildSlice 22 0 #[], type := 22, pos := "law.go:179", after := #[], guard := none }) rfl (fun K hK => ?_) ?_
    · as_aux_lemma =>
      refine step_bs0 33 rfl rfl rfl W4.heap.size hk.size ?_
      intro v y0 hO' hv hb
      clear hv
      replace hk := kf_step hb hk
      clear hb
      have hO := hO'
      clear hO'
      refine hK.out _ _ (hKP.out _ hk) (fun hHeld => ?_)
      clear hK K
      try (conv => arg 8; simp only [Act.put, List.setIfInBounds_toArray, List.set_cons_zero, List.set_cons_succ])
      clear hHeld
      refine wpAnyH_ready (rs := [2,4,12]) (by kernel_rfl) (by simp) ?_
      refine AllReadyH.cons (o := { dst := some 35, op := Op.call { callee := Callee.builtin Builtin.append, args := #[Operand.tmp 33, Operand.tmp 34], argTypes := #[22, 22] }, type := 22, pos := "law.go:179", after := #[{ on := 0, ground := Ground.data }, { on := 1, ground := Ground.data }], guard := none }) rfl (fun K hK => ?_) ?_
      · as_aux_lemma =>
        refine step_app 35 _ _ rfl rfl rfl W4.heap.size v 0 [] rfl hO a n c f rfl (HE4.out.below hk) (by omega) hk.size ?_
        intro v2 y1 hO2 hgr hat
        replace hk := kf_grown hgr hk hO
        clear hgr hat hO
        rw [List.nil_append, Nat.zero_add] at hO2
        refine hK.out _ _ (hKP.out _ hk) (fun hHeld => ?_)
        clear hK K
        try (conv => arg 8; simp only [Act.put, List.setIfInBounds_toArray, List.set_cons_zero, List.set_cons_succ])
        clear hHeld
        refine wpAnyH_ready (rs := [4,12]) (by kernel_rfl) (by simp) ?_
        refine AllReadyH.cons (o := { dst := some 37, op := Op.buildSlice 22 1 #[(0, Operand.tmp 36)], type := 22, pos := "law.go:179", after := #[{ on := 3, ground := Ground.data }], guard := none }) rfl (fun K hK => ?_) ?_
        · as_aux_lemma =>
          refine step_bs1 37 _ x rfl rfl rfl rfl ?_
          intro gt y2 hT' et hb
          have hne2 := own_lt hO2 (g := gt) (by omega)
          clear et
          replace hO2 := own_below hO2 hb
          replace hk := kf_step hb hk
          clear hb
          have hT := hT'
          clear hT'
          refine hK.out _ _ (hKP.out _ hk) (fun hHeld => ?_)
          clear hK K
          try (conv => arg 8; simp only [Act.put, List.setIfInBounds_toArray, List.set_cons_zero, List.set_cons_succ])
          clear hHeld
          refine wpAnyH_ready (rs := [5,12]) (by kernel_rfl) (by simp) ?_
          refine AllReadyH.cons (o := { dst := some 38, op := Op.call { callee := Callee.builtin Builtin.append, args := #[Operand.tmp 35, Operand.tmp 37], argTypes := #[22, 22] }, type := 22, pos := "law.go:179", after := #[{ on := 2, ground := Ground.data }, { on := 4, ground := Ground.data }, { on := 2, ground := Ground.chain }], guard := none }) rfl (fun K hK => ?_) ?_
          · as_aux_lemma =>
            refine step_app 38 _ _ rfl rfl rfl W4.heap.size v2 n (lsE f n) rfl hO2 (some ⟨gt, 0, none⟩) 1 1 (fun _ => x) rfl (OneE.ents hT) (by omega) hk.size ?_
            intro v3 y3 hO3 hgr hat
            replace hk := kf_grown hgr hk hO2
            clear hgr hat hO2 hT hne2
            obtain ⟨q3, cr, rfl⟩ := own_slice hO3
            rw [← HLL.out] at hO3
            refine hK.out _ _ (hKP.out _ hk) (fun hHeld => ?_)
            clear hK K
            try (conv => arg 8; simp only [Act.put, List.setIfInBounds_toArray, List.set_cons_zero, List.set_cons_succ])
            clear hHeld
            refine wpAnyH_ready (rs := [8,12]) (by kernel_rfl) (by simp) ?_
            refine AllReadyH.cons (o := { dst := some 41, op := Op.call { callee := Callee.value (Operand.func 10), args := #[Operand.tmp 38, Operand.tmp 39, Operand.tmp 40], argTypes := #[22, 24, 27] }, type := 32, pos := "law.go:179", after := #[{ on := 5, ground := Ground.data }, { on := 6, ground := Ground.data }, { on := 7, ground := Ground.data }, { on := 5, ground := Ground.chain }], guard := none }) rfl (fun K hK => ?_) ?_
            · as_aux_lemma =>
              refine step_call (by kernel_rfl) (ent_Sum ..) ?_
              refine (HS2.out _ _ _ hO3 q3 cr rfl).mono ?_
              rintro e y4 ⟨rfl, hb⟩
              clear hO3
              have hDone : True := trivial
              replace hk := kf_step hb hk
              clear hb hDone
              refine hK.out _ _ (hKP.out _ hk) (fun hHeld => ?_)
              clear hK K
              try (conv => arg 8; simp only [Act.put, List.setIfInBounds_toArray, List.set_cons_zero, List.set_cons_succ])
              refine wpAnyH_take (i := 9) (oi := { dst := some 32, op := Op.move (Operand.tmp 41), type := 32, pos := "law.go:179", after := #[{ on := 8, ground := Ground.data }], guard := none }) (v := ?_) rfl (by kernel_rfl) (by kernel_rfl) (by kernel_rfl) (fun _ _ _ h => h) (Or.inl ⟨by kernel_rfl, ?_⟩) (by assumption) ?_
              rotate_left 1
              · intro w' hSw
                (try dsimp only at hSw)
                obtain ⟨z0, z1, z2, z3, z4, z5, z6⟩ := hSw.1
                clear hSw
                go_simp
                all_goals (with_reducible rfl)
              try (conv => arg 8; simp only [Act.put, List.setIfInBounds_toArray, List.set_cons_zero, List.set_cons_succ])
              refine wpAnyH_take (i := 10) (oi := { dst := some 42, op := Op.extract (Operand.tmp 32) 0, type := 30, pos := "law.go:179", after := #[{ on := 9, ground := Ground.data }], guard := none }) (v := ?_) rfl (by kernel_rfl) (by kernel_rfl) (by kernel_rfl) (fun _ _ _ h => h) (Or.inl ⟨by kernel_rfl, ?_⟩) (by assumption) ?_
              rotate_left 1
              · intro w' hSw
                (try dsimp only at hSw)
                obtain ⟨z0, z1, z2, z3, z4, z5, z6⟩ := hSw.1
                clear hSw
                go_simp
                all_goals (with_reducible rfl)
              try (conv => arg 8; simp only [Act.put, List.setIfInBounds_toArray, List.set_cons_zero, List.set_cons_succ])
              refine wpAnyH_take (i := 11) (oi := { dst := some 43, op := Op.extract (Operand.tmp 32) 1, type := 31, pos := "law.go:179", after := #[{ on := 9, ground := Ground.data }, { on := 13, ground := Ground.gcOnly Departure.lateStores }], guard := none }) (v := ?_) rfl (by kernel_rfl) (by kernel_rfl) (by kernel_rfl) (fun _ _ _ h => h) (Or.inl ⟨by kernel_rfl, ?_⟩) (by assumption) ?_
              rotate_left 1
              · intro w' hSw
                (try dsimp only at hSw)
                obtain ⟨z0, z1, z2, z3, z4, z5, z6⟩ := hSw.1
                clear hSw
                go_simp
                all_goals (with_reducible rfl)
              try (conv => arg 8; simp only [Act.put, List.setIfInBounds_toArray, List.set_cons_zero, List.set_cons_succ])
              clear hHeld
              refine wpAnyH_ready (rs := [12]) (by kernel_rfl) (by simp) ?_
              refine AllReadyH.cons (o := { dst := some 11, op := Op.alloc 30, type := 0, pos := "law.go:179", after := #[], guard := none }) rfl (fun K hK => ?_) AllReadyH.nil
              refine step_newH 11 rfl rfl rfl ?_
              intro gn y5 hG' eg hb
              have hgn : W4.heap.size ≤ gn := by rw [eg]; exact hk.size
              clear eg
              replace hk := kf_step hb hk
              clear hb
              have hG := hG'
              clear hG'
              refine hK.out _ _ (hKP.out _ hk) (fun hHeld => ?_)
              clear hK K
              try (conv => arg 8; simp only [Act.put, List.setIfInBounds_toArray, List.set_cons_zero, List.set_cons_succ])
              clear hHeld
              refine wpAnyH_ready (rs := [13]) (by kernel_rfl) (by simp) ?_
              refine AllReadyH.cons (o := { dst := none, op := Op.store 30 (Operand.tmp 11) (Operand.tmp 42), type := 0, pos := "law.go:179", after := #[{ on := 12, ground := Ground.data }, { on := 10, ground := Ground.data }, { on := 8, ground := Ground.chain }, { on := 0, ground := Ground.phase }, { on := 1, ground := Ground.phase }, { on := 2, ground := Ground.phase }, { on := 3, ground := Ground.phase }, { on := 4, ground := Ground.phase }, { on := 5, ground := Ground.phase }, { on := 6, ground := Ground.phase }, { on := 7, ground := Ground.phase }, { on := 8, ground := Ground.phase }, { on := 9, ground := Ground.phase }, { on := 10, ground := Ground.phase }, { on := 11, ground := Ground.textOnly Departure.lateStores }, { on := 12, ground := Ground.phase }], guard := none }) rfl (fun K hK => ?_) AllReadyH.nil
              refine step_storeH _ _ rfl rfl rfl gn R2 rfl rfl hG ?_
              intro w6 e6
              have hk6 : Below W4.heap.size W4 w6 := by rw [e6.out]; exact hset_below hk hgn _
              refine hK.out _ _ (hKP.out _ hk6) (fun hHeld => ?_)
              clear hK K
              try (conv => arg 8; simp only [Act.put, List.setIfInBounds_toArray, List.set_cons_zero, List.set_cons_succ])
              refine wpAnyH_take (i := 14) (oi := { dst := some 12, op := Op.assign (Operand.tmp 43), type := 31, pos := "law.go:179", after := #[{ on := 11, ground := Ground.data }, { on := 13, ground := Ground.chain }, { on := 0, ground := Ground.phase }, { on := 1, ground := Ground.phase }, { on := 2, ground := Ground.phase }, { on := 3, ground := Ground.phase }, { on := 4, ground := Ground.phase }, { on := 5, ground := Ground.phase }, { on := 6, ground := Ground.phase }, { on := 7, ground := Ground.phase }, { on := 8, ground := Ground.phase }, { on := 9, ground := Ground.phase }, { on := 10, ground := Ground.phase }, { on := 11, ground := Ground.phase }, { on := 12, ground := Ground.phase }, { on := 13, ground := Ground.phase }], guard := none }) (v := ?_) rfl (by kernel_rfl) (by kernel_rfl) (by kernel_rfl) (fun _ _ _ h => h) (Or.inl ⟨by kernel_rfl, ?_⟩) (by assumption) ?_
              rotate_left 1
              · intro w' hSw
                (try dsimp only at hSw)
                obtain ⟨z0, z1, z2, z3, z4, z5, z6⟩ := hSw.1
                clear hSw
                go_simp
                all_goals (with_reducible rfl)
              try (conv => arg 8; simp only [Act.put, List.setIfInBounds_toArray, List.set_cons_zero, List.set_cons_succ])
              refine wpAnyH_done (by kernel_rfl) ?_ _
              try simp only [Act.put, List.getElem_toArray, List.getElem_cons_succ, List.getElem_cons_zero, List.setIfInBounds_toArray, List.set_cons_zero, List.set_cons_succ]
              go_wp2_with fail
              go_meet
              case rel => exact ⟨newH_end hG hk hgn e6.out, rfl⟩
            refine AllReadyH.cons (o := { dst := some 11, op := Op.alloc 30, type := 0, pos := "law.go:179", after := #[], guard := none }) rfl (fun K hK => ?_) AllReadyH.nil
            refine step_newH 11 rfl rfl rfl ?_
            intro gn y4 hG' eg hb
            have hgn : W4.heap.size ≤ gn := by rw [eg]; exact hk.size
            clear eg
            replace hO3 := own_below hO3 hb
            replace hk := kf_step hb hk
            clear hb
            have hG := hG'
            clear hG'
            refine hK.out _ _ (hKP.out _ hk) (fun hHeld => ?_)
            clear hK K
            try (conv => arg 8; simp only [Act.put, List.setIfInBounds_toArray, List.set_cons_zero, List.set_cons_succ])
            clear hHeld
            refine wpAnyH_ready (rs := [8]) (by kernel_rfl) (by simp) ?_
            refine AllReadyH.cons (o := { dst := some 41, op := Op.call { callee := Callee.value (Operand.func 10), args := #[Operand.tmp 38, Operand.tmp 39, Operand.tmp 40], argTypes := #[22, 24, 27] }, type := 32, pos := "law.go:179", after := #[{ on := 5, ground := Ground.data }, { on := 6, ground := Ground.data }, { on := 7, ground := Ground.data }, { on := 5, ground := Ground.chain }], guard := none }) rfl (fun K hK => ?_) AllReadyH.nil
            refine step_call (by kernel_rfl) (ent_Sum ..) ?_
            refine (HS2.out _ _ _ hO3 q3 cr rfl).mono ?_
            rintro e y5 ⟨rfl, hb⟩
            clear hO3
            have hDone : True := trivial
            replace hG := Fr3.below hG hb
            replace hk := kf_step hb hk
            clear hb hDone
            refine hK.out _ _ (hKP.out _ hk) (fun hHeld => ?_)
            clear hK K
            try (conv => arg 8; simp only [Act.put, List.setIfInBounds_toArray, List.set_cons_zero, List.set_cons_succ])
            refine wpAnyH_take (i := 9) (oi := { dst := some 32, op := Op.move (Operand.tmp 41), type := 32, pos := "law.go:179", after := #[{ on := 8, ground := Ground.data }], guard := none }) (v := ?_) rfl (by kernel_rfl) (by kernel_rfl) (by kernel_rfl) (fun _ _ _ h => h) (Or.inl ⟨by kernel_rfl, ?_⟩) (by assumption) ?_
            rotate_left 1
            · intro w' hSw
              (try dsimp only at hSw)
              obtain ⟨z0, z1, z2, z3, z4, z5, z6⟩ := hSw.1
              clear hSw
              go_simp
              all_goals (with_reducible rfl)
            try (conv => arg 8; simp only [Act.put, List.setIfInBounds_toArray, List.set_cons_zero, List.set_cons_succ])
            refine wpAnyH_take (i := 10) (oi := { dst := some 42, op := Op.extract (Operand.tmp 32) 0, type := 30, pos := "law.go:179", after := #[{ on := 9, ground := Ground.data }], guard := none }) (v := ?_) rfl (by kernel_rfl) (by kernel_rfl) (by kernel_rfl) (fun _ _ _ h => h) (Or.inl ⟨by kernel_rfl, ?_⟩) (by assumption) ?_
            rotate_left 1
            · intro w' hSw
              (try dsimp only at hSw)
              obtain ⟨z0, z1, z2, z3, z4, z5, z6⟩ := hSw.1
              clear hSw
              go_simp
              all_goals (with_reducible rfl)
            try (conv => arg 8; simp only [Act.put, List.setIfInBounds_toArray, List.set_cons_zero, List.set_cons_succ])
            refine wpAnyH_take (i := 11) (oi := { dst := some 43, op := Op.extract (Operand.tmp 32) 1, type := 31, pos := "law.go:179", after := #[{ on := 9, ground := Ground.data }, { on := 13, ground := Ground.gcOnly Departure.lateStores }], guard := none }) (v := ?_) rfl (by kernel_rfl) (by kernel_rfl) (by kernel_rfl) (fun _ _ _ h => h) (Or.inl ⟨by kernel_rfl, ?_⟩) (by assumption) ?_
            rotate_left 1
            · intro w' hSw
              (try dsimp only at hSw)
              obtain ⟨z0, z1, z2, z3, z4, z5, z6⟩ := hSw.1
              clear hSw
              go_simp
              all_goals (with_reducible rfl)
            try (conv => arg 8; simp only [Act.put, List.setIfInBounds_toArray, List.set_cons_zero, List.set_cons_succ])
            clear hHeld
            refine wpAnyH_ready (rs := [13]) (by kernel_rfl) (by simp) ?_
            refine AllReadyH.cons (o := { dst := none, op := Op.store 30 (Operand.tmp 11) (Operand.tmp 42), type := 0, pos := "law.go:179", after := #[{ on := 12, ground := Ground.data }, { on := 10, ground := Ground.data }, { on := 8, ground := Ground.chain }, { on := 0, ground := Ground.phase }, { on := 1, ground := Ground.phase }, { on := 2, ground := Ground.phase }, { on := 3, ground := Ground.phase }, { on := 4, ground := Ground.phase }, { on := 5, ground := Ground.phase }, { on := 6, ground := Ground.phase }, { on := 7, ground := Ground.phase }, { on := 8, ground := Ground.phase }, { on := 9, ground := Ground.phase }, { on := 10, ground := Ground.phase }, { on := 11, ground := Ground.textOnly Departure.lateStores }, { on := 12, ground := Ground.phase }], guard := none }) rfl (fun K hK => ?_) AllReadyH.nil
            refine step_storeH _ _ rfl rfl rfl gn R2 rfl rfl hG ?_
            intro w6 e6
            have hk6 : Below W4.heap.size W4 w6 := by rw [e6.out]; exact hset_below hk hgn _
            refine hK.out _ _ (hKP.out _ hk6) (fun hHeld => ?_)
            clear hK K
            try (conv => arg 8; simp only [Act.put, List.setIfInBounds_toArray, List.set_cons_zero, List.set_cons_succ])
            refine wpAnyH_take (i := 14) (oi := { dst := some 12, op := Op.assign (Operand.tmp 43), type := 31, pos := "law.go:179", after := #[{ on := 11, ground := Ground.data }, { on := 13, ground := Ground.chain }, { on := 0, ground := Ground.phase }, { on := 1, ground := Ground.phase }, { on := 2, ground := Ground.phase }, { on := 3, ground := Ground.phase }, { on := 4, ground := Ground.phase }, { on := 5, ground := Ground.phase }, { on := 6, ground := Ground.phase }, { on := 7, ground := Ground.phase }, { on := 8, ground := Ground.phase }, { on := 9, ground := Ground.phase }, { on := 10, ground := Ground.phase }, { on := 11, ground := Ground.phase }, { on := 12, ground := Ground.phase }, { on := 13, ground := Ground.phase }], guard := none }) (v := ?_) rfl (by kernel_rfl) (by kernel_rfl) (by kernel_rfl) (fun _ _ _ h => h) (Or.inl ⟨by kernel_rfl, ?_⟩) (by assumption) ?_
            rotate_left 1
            · intro w' hSw
              (try dsimp only at hSw)
              obtain ⟨z0, z1, z2, z3, z4, z5, z6⟩ := hSw.1
              clear hSw
              go_simp
              all_goals (with_reducible rfl)
            try (conv => arg 8; simp only [Act.put, List.setIfInBounds_toArray, List.set_cons_zero, List.set_cons_succ])
            refine wpAnyH_done (by kernel_rfl) ?_ _
            try simp only [Act.put, List.getElem_toArray, List.getElem_cons_succ, List.getElem_cons_zero, List.setIfInBounds_toArray, List.set_cons_zero, List.set_cons_succ]
            go_wp2_with fail
            go_meet
            case rel => exact ⟨newH_end hG hk hgn e6.out, rfl⟩
          refine AllReadyH.cons (o := { dst := some 11, op := Op.alloc 30, type := 0, pos := "law.go:179", after := #[], guard := none }) rfl (fun K hK => ?_) AllReadyH.nil
          refine step_newH 11 rfl rfl rfl ?_
          intro gn y3 hG' eg hb
          have hgn : W4.heap.size ≤ gn := by rw [eg]; exact hk.size
          clear eg
          replace hO2 := own_below hO2 hb
          replace hT := OneE.below hT hb
          replace hk := kf_step hb hk
          clear hb
          have hG := hG'
          clear hG'
          refine hK.out _ _ (hKP.out _ hk) (fun hHeld => ?_)
          clear hK K
          try (conv => arg 8; simp only [Act.put, List.setIfInBounds_toArray, List.set_cons_zero, List.set_cons_succ])
          clear hHeld
          refine wpAnyH_ready (rs := [5]) (by kernel_rfl) (by simp) ?_
          refine AllReadyH.cons (o := { dst := some 38, op := Op.call { callee := Callee.builtin Builtin.append, args := #[Operand.tmp 35, Operand.tmp 37], argTypes := #[22, 22] }, type := 22, pos := "law.go:179", after := #[{ on := 2, ground := Ground.data }, { on := 4, ground := Ground.data }, { on := 2, ground := Ground.chain }], guard := none }) rfl (fun K hK => ?_) AllReadyH.nil
          refine step_app 38 _ _ rfl rfl rfl W4.heap.size v2 n (lsE f n) rfl hO2 (some ⟨gt, 0, none⟩) 1 1 (fun _ => x) rfl (OneE.ents hT) (by omega) hk.size ?_
          intro v3 y4 hO3 hgr hat
          replace hG := Fr3.grown hG hgr (Fr3.far hG hO2)
          replace hk := kf_grown hgr hk hO2
          clear hgr hat hO2 hT hne2
          obtain ⟨q3, cr, rfl⟩ := own_slice hO3
          rw [← HLL.out] at hO3
          refine hK.out _ _ (hKP.out _ hk) (fun hHeld => ?_)
          clear hK K
          try (conv => arg 8; simp only [Act.put, List.setIfInBounds_toArray, List.set_cons_zero, List.set_cons_succ])
          clear hHeld
          refine wpAnyH_ready (rs := [8]) (by kernel_rfl) (by simp) ?_
          refine AllReadyH.cons (o := { dst := some 41, op := Op.call { callee := Callee.value (Operand.func 10), args := #[Operand.tmp 38, Operand.tmp 39, Operand.tmp 40], argTypes := #[22, 24, 27] }, type := 32, pos := "law.go:179", after := #[{ on := 5, ground := Ground.data }, { on := 6, ground := Ground.data }, { on := 7, ground := Ground.data }, { on := 5, ground := Ground.chain }], guard := none }) rfl (fun K hK => ?_) AllReadyH.nil
          refine step_call (by kernel_rfl) (ent_Sum ..) ?_
          refine (HS2.out _ _ _ hO3 q3 cr rfl).mono ?_
          rintro e y5 ⟨rfl, hb⟩
          clear hO3
          have hDone : True := trivial
          replace hG := Fr3.below hG hb
          replace hk := kf_step hb hk
          clear hb hDone
          refine hK.out _ _ (hKP.out _ hk) (fun hHeld => ?_)
          clear hK K
          try (conv => arg 8; simp only [Act.put, List.setIfInBounds_toArray, List.set_cons_zero, List.set_cons_succ])
          refine wpAnyH_take (i := 9) (oi := { dst := some 32, op := Op.move (Operand.tmp 41), type := 32, pos := "law.go:179", after := #[{ on := 8, ground := Ground.data }], guard := none }) (v := ?_) rfl (by kernel_rfl) (by kernel_rfl) (by kernel_rfl) (fun _ _ _ h => h) (Or.inl ⟨by kernel_rfl, ?_⟩) (by assumption) ?_
          rotate_left 1
          · intro w' hSw
            (try dsimp only at hSw)
            obtain ⟨z0, z1, z2, z3, z4, z5, z6⟩ := hSw.1
            clear hSw
            go_simp
            all_goals (with_reducible rfl)
          try (conv => arg 8; simp only [Act.put, List.setIfInBounds_toArray, List.set_cons_zero, List.set_cons_succ])
          refine wpAnyH_take (i := 10) (oi := { dst := some 42, op := Op.extract (Operand.tmp 32) 0, type := 30, pos := "law.go:179", after := #[{ on := 9, ground := Ground.data }], guard := none }) (v := ?_) rfl (by kernel_rfl) (by kernel_rfl) (by kernel_rfl) (fun _ _ _ h => h) (Or.inl ⟨by kernel_rfl, ?_⟩) (by assumption) ?_
          rotate_left 1
          · intro w' hSw
            (try dsimp only at hSw)
            obtain ⟨z0, z1, z2, z3, z4, z5, z6⟩ := hSw.1
            clear hSw
            go_simp
            all_goals (with_reducible rfl)
          try (conv => arg 8; simp only [Act.put, List.setIfInBounds_toArray, List.set_cons_zero, List.set_cons_succ])
          refine wpAnyH_take (i := 11) (oi := { dst := some 43, op := Op.extract (Operand.tmp 32) 1, type := 31, pos := "law.go:179", after := #[{ on := 9, ground := Ground.data }, { on := 13, ground := Ground.gcOnly Departure.lateStores }], guard := none }) (v := ?_) rfl (by kernel_rfl) (by kernel_rfl) (by kernel_rfl) (fun _ _ _ h => h) (Or.inl ⟨by kernel_rfl, ?_⟩) (by assumption) ?_
          rotate_left 1
          · intro w' hSw
            (try dsimp only at hSw)
            obtain ⟨z0, z1, z2, z3, z4, z5, z6⟩ := hSw.1
            clear hSw
            go_simp
            all_goals (with_reducible rfl)
          try (conv => arg 8; simp only [Act.put, List.setIfInBounds_toArray, List.set_cons_zero, List.set_cons_succ])
          clear hHeld
          refine wpAnyH_ready (rs := [13]) (by kernel_rfl) (by simp) ?_
          refine AllReadyH.cons (o := { dst := none, op := Op.store 30 (Operand.tmp 11) (Operand.tmp 42), type := 0, pos := "law.go:179", after := #[{ on := 12, ground := Ground.data }, { on := 10, ground := Ground.data }, { on := 8, ground := Ground.chain }, { on := 0, ground := Ground.phase }, { on := 1, ground := Ground.phase }, { on := 2, ground := Ground.phase }, { on := 3, ground := Ground.phase }, { on := 4, ground := Ground.phase }, { on := 5, ground := Ground.phase }, { on := 6, ground := Ground.phase }, { on := 7, ground := Ground.phase }, { on := 8, ground := Ground.phase }, { on := 9, ground := Ground.phase }, { on := 10, ground := Ground.phase }, { on := 11, ground := Ground.textOnly Departure.lateStores }, { on := 12, ground := Ground.phase }], guard := none }) rfl (fun K hK => ?_) AllReadyH.nil
          refine step_storeH _ _ rfl rfl rfl gn R2 rfl rfl hG ?_
          intro w6 e6
          have hk6 : Below W4.heap.size W4 w6 := by rw [e6.out]; exact hset_below hk hgn _
          refine hK.out _ _ (hKP.out _ hk6) (fun hHeld => ?_)
          clear hK K
          try (conv => arg 8; simp only [Act.put, List.setIfInBounds_toArray, List.set_cons_zero, List.set_cons_succ])
          refine wpAnyH_take (i := 14) (oi := { dst := some 12, op := Op.assign (Operand.tmp 43), type := 31, pos := "law.go:179", after := #[{ on := 11, ground := Ground.data }, { on := 13, ground := Ground.chain }, { on := 0, ground := Ground.phase }, { on := 1, ground := Ground.phase }, { on := 2, ground := Ground.phase }, { on := 3, ground := Ground.phase }, { on := 4, ground := Ground.phase }, { on := 5, ground := Ground.phase }, { on := 6, ground := Ground.phase }, { on := 7, ground := Ground.phase }, { on := 8, ground := Ground.phase }, { on := 9, ground := Ground.phase }, { on := 10, ground := Ground.phase }, { on := 11, ground := Ground.phase }, { on := 12, ground := Ground.phase }, { on := 13, ground := Ground.phase }], guard := none }) (v := ?_) rfl (by kernel_rfl) (by kernel_rfl) (by kernel_rfl) (fun _ _ _ h => h) (Or.inl ⟨by kernel_rfl, ?_⟩) (by assumption) ?_
          rotate_left 1
          · intro w' hSw
            (try dsimp only at hSw)
            obtain ⟨z0, z1, z2, z3, z4, z5, z6⟩ := hSw.1
            clear hSw
            go_simp
            all_goals (with_reducible rfl)
          try (conv => arg 8; simp only [Act.put, List.setIfInBounds_toArray, List.set_cons_zero, List.set_cons_succ])
          refine wpAnyH_done (by kernel_rfl) ?_ _
          try simp only [Act.put, List.getElem_toArray, List.getElem_cons_succ, List.getElem_cons_zero, List.setIfInBounds_toArray, List.set_cons_zero, List.set_cons_succ]
          go_wp2_with fail
          go_meet
          case rel => exact ⟨newH_end hG hk hgn e6.out, rfl⟩
        refine AllReadyH.cons (o := { dst := some 11, op := Op.alloc 30, type := 0, pos := "law.go:179", after := #[], guard := none }) rfl (fun K hK => ?_) AllReadyH.nil
        refine step_newH 11 rfl rfl rfl ?_
        intro gn y2 hG' eg hb
        have hgn : W4.heap.size ≤ gn := by rw [eg]; exact hk.size
        clear eg
        replace hO2 := own_below hO2 hb
        replace hk := kf_step hb hk
        clear hb
        have hG := hG'
        clear hG'
        refine hK.out _ _ (hKP.out _ hk) (fun hHeld => ?_)
        clear hK K
        try (conv => arg 8; simp only [Act.put, List.setIfInBounds_toArray, List.set_cons_zero, List.set_cons_succ])
        clear hHeld
        refine wpAnyH_ready (rs := [4]) (by kernel_rfl) (by simp) ?_
        refine AllReadyH.cons (o := { dst := some 37, op := Op.buildSlice 22 1 #[(0, Operand.tmp 36)], type := 22, pos := "law.go:179", after := #[{ on := 3, ground := Ground.data }], guard := none }) rfl (fun K hK => ?_) AllReadyH.nil
        refine step_bs1 37 _ x rfl rfl rfl rfl ?_
        intro gt y3 hT' et hb
        have hne2 := own_lt hO2 (g := gt) (by omega)
        clear et
        replace hO2 := own_below hO2 hb
        replace hG := Fr3.below hG hb
        replace hk := kf_step hb hk
        clear hb
        have hT := hT'
        clear hT'
        refine hK.out _ _ (hKP.out _ hk) (fun hHeld => ?_)
        clear hK K
        try (conv => arg 8; simp only [Act.put, List.setIfInBounds_toArray, List.set_cons_zero, List.set_cons_succ])
        clear hHeld
        refine wpAnyH_ready (rs := [5]) (by kernel_rfl) (by simp) ?_
        refine AllReadyH.cons (o := { dst := some 38, op := Op.call { callee := Callee.builtin Builtin.append, args := #[Operand.tmp 35, Operand.tmp 37], argTypes := #[22, 22] }, type := 22, pos := "law.go:179", after := #[{ on := 2, ground := Ground.data }, { on := 4, ground := Ground.data }, { on := 2, ground := Ground.chain }], guard := none }) rfl (fun K hK => ?_) AllReadyH.nil
        refine step_app 38 _ _ rfl rfl rfl W4.heap.size v2 n (lsE f n) rfl hO2 (some ⟨gt, 0, none⟩) 1 1 (fun _ => x) rfl (OneE.ents hT) (by omega) hk.size ?_
        intro v3 y4 hO3 hgr hat
        replace hG := Fr3.grown hG hgr (Fr3.far hG hO2)
        replace hk := kf_grown hgr hk hO2
        clear hgr hat hO2 hT hne2
        obtain ⟨q3, cr, rfl⟩ := own_slice hO3
        rw [← HLL.out] at hO3
        refine hK.out _ _ (hKP.out _ hk) (fun hHeld => ?_)
        clear hK K
        try (conv => arg 8; simp only [Act.put, List.setIfInBounds_toArray, List.set_cons_zero, List.set_cons_succ])
        clear hHeld
        refine wpAnyH_ready (rs := [8]) (by kernel_rfl) (by simp) ?_
        refine AllReadyH.cons (o := { dst := some 41, op := Op.call { callee := Callee.value (Operand.func 10), args := #[Operand.tmp 38, Operand.tmp 39, Operand.tmp 40], argTypes := #[22, 24, 27] }, type := 32, pos := "law.go:179", after := #[{ on := 5, ground := Ground.data }, { on := 6, ground := Ground.data }, { on := 7, ground := Ground.data }, { on := 5, ground := Ground.chain }], guard := none }) rfl (fun K hK => ?_) AllReadyH.nil
        refine step_call (by kernel_rfl) (ent_Sum ..) ?_
        refine (HS2.out _ _ _ hO3 q3 cr rfl).mono ?_
        rintro e y5 ⟨rfl, hb⟩
        clear hO3
        have hDone : True := trivial
        replace hG := Fr3.below hG hb
        replace hk := kf_step hb hk
        clear hb hDone
        refine hK.out _ _ (hKP.out _ hk) (fun hHeld => ?_)
        clear hK K
        try (conv => arg 8; simp only [Act.put, List.setIfInBounds_toArray, List.set_cons_zero, List.set_cons_succ])
        refine wpAnyH_take (i := 9) (oi := { dst := some 32, op := Op.move (Operand.tmp 41), type := 32, pos := "law.go:179", after := #[{ on := 8, ground := Ground.data }], guard := none }) (v := ?_) rfl (by kernel_rfl) (by kernel_rfl) (by kernel_rfl) (fun _ _ _ h => h) (Or.inl ⟨by kernel_rfl, ?_⟩) (by assumption) ?_
        rotate_left 1
        · intro w' hSw
          (try dsimp only at hSw)
          obtain ⟨z0, z1, z2, z3, z4, z5, z6⟩ := hSw.1
          clear hSw
          go_simp
          all_goals (with_reducible rfl)
        try (conv => arg 8; simp only [Act.put, List.setIfInBounds_toArray, List.set_cons_zero, List.set_cons_succ])
        refine wpAnyH_take (i := 10) (oi := { dst := some 42, op := Op.extract (Operand.tmp 32) 0, type := 30, pos := "law.go:179", after := #[{ on := 9, ground := Ground.data }], guard := none }) (v := ?_) rfl (by kernel_rfl) (by kernel_rfl) (by kernel_rfl) (fun _ _ _ h => h) (Or.inl ⟨by kernel_rfl, ?_⟩) (by assumption) ?_
        rotate_left 1
        · intro w' hSw
          (try dsimp only at hSw)
          obtain ⟨z0, z1, z2, z3, z4, z5, z6⟩ := hSw.1
          clear hSw
          go_simp
          all_goals (with_reducible rfl)
        try (conv => arg 8; simp only [Act.put, List.setIfInBounds_toArray, List.set_cons_zero, List.set_cons_succ])
        refine wpAnyH_take (i := 11) (oi := { dst := some 43, op := Op.extract (Operand.tmp 32) 1, type := 31, pos := "law.go:179", after := #[{ on := 9, ground := Ground.data }, { on := 13, ground := Ground.gcOnly Departure.lateStores }], guard := none }) (v := ?_) rfl (by kernel_rfl) (by kernel_rfl) (by kernel_rfl) (fun _ _ _ h => h) (Or.inl ⟨by kernel_rfl, ?_⟩) (by assumption) ?_
        rotate_left 1
        · intro w' hSw
          (try dsimp only at hSw)
          obtain ⟨z0, z1, z2, z3, z4, z5, z6⟩ := hSw.1
          clear hSw
          go_simp
          all_goals (with_reducible rfl)
        try (conv => arg 8; simp only [Act.put, List.setIfInBounds_toArray, List.set_cons_zero, List.set_cons_succ])
        clear hHeld
        refine wpAnyH_ready (rs := [13]) (by kernel_rfl) (by simp) ?_
        refine AllReadyH.cons (o := { dst := none, op := Op.store 30 (Operand.tmp 11) (Operand.tmp 42), type := 0, pos := "law.go:179", after := #[{ on := 12, ground := Ground.data }, { on := 10, ground := Ground.data }, { on := 8, ground := Ground.chain }, { on := 0, ground := Ground.phase }, { on := 1, ground := Ground.phase }, { on := 2, ground := Ground.phase }, { on := 3, ground := Ground.phase }, { on := 4, ground := Ground.phase }, { on := 5, ground := Ground.phase }, { on := 6, ground := Ground.phase }, { on := 7, ground := Ground.phase }, { on := 8, ground := Ground.phase }, { on := 9, ground := Ground.phase }, { on := 10, ground := Ground.phase }, { on := 11, ground := Ground.textOnly Departure.lateStores }, { on := 12, ground := Ground.phase }], guard := none }) rfl (fun K hK => ?_) AllReadyH.nil
        refine step_storeH _ _ rfl rfl rfl gn R2 rfl rfl hG ?_
        intro w6 e6
        have hk6 : Below W4.heap.size W4 w6 := by rw [e6.out]; exact hset_below hk hgn _
        refine hK.out _ _ (hKP.out _ hk6) (fun hHeld => ?_)
        clear hK K
        try (conv => arg 8; simp only [Act.put, List.setIfInBounds_toArray, List.set_cons_zero, List.set_cons_succ])
        refine wpAnyH_take (i := 14) (oi := { dst := some 12, op := Op.assign (Operand.tmp 43), type := 31, pos := "law.go:179", after := #[{ on := 11, ground := Ground.data }, { on := 13, ground := Ground.chain }, { on := 0, ground := Ground.phase }, { on := 1, ground := Ground.phase }, { on := 2, ground := Ground.phase }, { on := 3, ground := Ground.phase }, { on := 4, ground := Ground.phase }, { on := 5, ground := Ground.phase }, { on := 6, ground := Ground.phase }, { on := 7, ground := Ground.phase }, { on := 8, ground := Ground.phase }, { on := 9, ground := Ground.phase }, { on := 10, ground := Ground.phase }, { on := 11, ground := Ground.phase }, { on := 12, ground := Ground.phase }, { on := 13, ground := Ground.phase }], guard := none }) (v := ?_) rfl (by kernel_rfl) (by kernel_rfl) (by kernel_rfl) (fun _ _ _ h => h) (Or.inl ⟨by kernel_rfl, ?_⟩) (by assumption) ?_
        rotate_left 1
        · intro w' hSw
          (try dsimp only at hSw)
          obtain ⟨z0, z1, z2, z3, z4, z5, z6⟩ := hSw.1
          clear hSw
          go_simp
          all_goals (with_reducible rfl)
        try (conv => arg 8; simp only [Act.put, List.setIfInBounds_toArray, List.set_cons_zero, List.set_cons_succ])
        refine wpAnyH_done (by kernel_rfl) ?_ _
        try simp only [Act.put, List.getElem_toArray, List.getElem_cons_succ, List.getElem_cons_zero, List.setIfInBounds_toArray, List.set_cons_zero, List.set_cons_succ]
        go_wp2_with fail
        go_meet
        case rel => exact ⟨newH_end hG hk hgn e6.out, rfl⟩
      refine AllReadyH.cons (o := { dst := some 37, op := Op.buildSlice 22 1 #[(0, Operand.tmp 36)], type := 22, pos := "law.go:179", after := #[{ on := 3, ground := Ground.data }], guard := none }) rfl (fun K hK => ?_) ?_
      · as_aux_lemma =>
        refine step_bs1 37 _ x rfl rfl rfl rfl ?_
        intro gt y1 hT' et hb
        have hne := own_lt hO (g := gt) (by omega)
        clear et
        replace hO := own_below hO hb
        replace hk := kf_step hb hk
        clear hb
        have hT := hT'
        clear hT'
        refine hK.out _ _ (hKP.out _ hk) (fun hHeld => ?_)
        clear hK K
        try (conv => arg 8; simp only [Act.put, List.setIfInBounds_toArray, List.set_cons_zero, List.set_cons_succ])
        clear hHeld
        refine wpAnyH_ready (rs := [2,12]) (by kernel_rfl) (by simp) ?_
        refine AllReadyH.cons (o := { dst := some 35, op := Op.call { callee := Callee.builtin Builtin.append, args := #[Operand.tmp 33, Operand.tmp 34], argTypes := #[22, 22] }, type := 22, pos := "law.go:179", after := #[{ on := 0, ground := Ground.data }, { on := 1, ground := Ground.data }], guard := none }) rfl (fun K hK => ?_) ?_
        · as_aux_lemma =>
          refine step_app 35 _ _ rfl rfl rfl W4.heap.size v 0 [] rfl hO a n c f rfl (HE4.out.below hk) (by omega) hk.size ?_
          intro v2 y2 hO2 hgr hat
          have hne2 := ne_app hne (lt_of_at hT) hat
          replace hT := OneE.grown hT hgr hne
          clear hne
          replace hk := kf_grown hgr hk hO
          clear hgr hat hO
          rw [List.nil_append, Nat.zero_add] at hO2
          refine hK.out _ _ (hKP.out _ hk) (fun hHeld => ?_)
          clear hK K
          try (conv => arg 8; simp only [Act.put, List.setIfInBounds_toArray, List.set_cons_zero, List.set_cons_succ])
          clear hHeld
          refine wpAnyH_ready (rs := [5,12]) (by kernel_rfl) (by simp) ?_
          refine AllReadyH.cons (o := { dst := some 38, op := Op.call { callee := Callee.builtin Builtin.append, args := #[Operand.tmp 35, Operand.tmp 37], argTypes := #[22, 22] }, type := 22, pos := "law.go:179", after := #[{ on := 2, ground := Ground.data }, { on := 4, ground := Ground.data }, { on := 2, ground := Ground.chain }], guard := none }) rfl (fun K hK => ?_) ?_
          · as_aux_lemma =>
            refine step_app 38 _ _ rfl rfl rfl W4.heap.size v2 n (lsE f n) rfl hO2 (some ⟨gt, 0, none⟩) 1 1 (fun _ => x) rfl (OneE.ents hT) (by omega) hk.size ?_
            intro v3 y3 hO3 hgr hat
            replace hk := kf_grown hgr hk hO2
            clear hgr hat hO2 hT hne2
            obtain ⟨q3, cr, rfl⟩ := own_slice hO3
            rw [← HLL.out] at hO3
            refine hK.out _ _ (hKP.out _ hk) (fun hHeld => ?_)
            clear hK K
            try (conv => arg 8; simp only [Act.put, List.setIfInBounds_toArray, List.set_cons_zero, List.set_cons_succ])
            clear hHeld
            refine wpAnyH_ready (rs := [8,12]) (by kernel_rfl) (by simp) ?_
            refine AllReadyH.cons (o := { dst := some 41, op := Op.call { callee := Callee.value (Operand.func 10), args := #[Operand.tmp 38, Operand.tmp 39, Operand.tmp 40], argTypes := #[22, 24, 27] }, type := 32, pos := "law.go:179", after := #[{ on := 5, ground := Ground.data }, { on := 6, ground := Ground.data }, { on := 7, ground := Ground.data }, { on := 5, ground := Ground.chain }], guard := none }) rfl (fun K hK => ?_) ?_
            · as_aux_lemma =>
              refine step_call (by kernel_rfl) (ent_Sum ..) ?_
              refine (HS2.out _ _ _ hO3 q3 cr rfl).mono ?_
              rintro e y4 ⟨rfl, hb⟩
              clear hO3
              have hDone : True := trivial
              replace hk := kf_step hb hk
              clear hb hDone
              refine hK.out _ _ (hKP.out _ hk) (fun hHeld => ?_)
              clear hK K
              try (conv => arg 8; simp only [Act.put, List.setIfInBounds_toArray, List.set_cons_zero, List.set_cons_succ])
              refine wpAnyH_take (i := 9) (oi := { dst := some 32, op := Op.move (Operand.tmp 41), type := 32, pos := "law.go:179", after := #[{ on := 8, ground := Ground.data }], guard := none }) (v := ?_) rfl (by kernel_rfl) (by kernel_rfl) (by kernel_rfl) (fun _ _ _ h => h) (Or.inl ⟨by kernel_rfl, ?_⟩) (by assumption) ?_
              rotate_left 1
              · intro w' hSw
                (try dsimp only at hSw)
                obtain ⟨z0, z1, z2, z3, z4, z5, z6⟩ := hSw.1
                clear hSw
                go_simp
                all_goals (with_reducible rfl)
              try (conv => arg 8; simp only [Act.put, List.setIfInBounds_toArray, List.set_cons_zero, List.set_cons_succ])
              refine wpAnyH_take (i := 10) (oi := { dst := some 42, op := Op.extract (Operand.tmp 32) 0, type := 30, pos := "law.go:179", after := #[{ on := 9, ground := Ground.data }], guard := none }) (v := ?_) rfl (by kernel_rfl) (by kernel_rfl) (by kernel_rfl) (fun _ _ _ h => h) (Or.inl ⟨by kernel_rfl, ?_⟩) (by assumption) ?_
              rotate_left 1
              · intro w' hSw
                (try dsimp only at hSw)
                obtain ⟨z0, z1, z2, z3, z4, z5, z6⟩ := hSw.1
                clear hSw
                go_simp
                all_goals (with_reducible rfl)
              try (conv => arg 8; simp only [Act.put, List.setIfInBounds_toArray, List.set_cons_zero, List.set_cons_succ])
              refine wpAnyH_take (i := 11) (oi := { dst := some 43, op := Op.extract (Operand.tmp 32) 1, type := 31, pos := "law.go:179", after := #[{ on := 9, ground := Ground.data }, { on := 13, ground := Ground.gcOnly Departure.lateStores }], guard := none }) (v := ?_) rfl (by kernel_rfl) (by kernel_rfl) (by kernel_rfl) (fun _ _ _ h => h) (Or.inl ⟨by kernel_rfl, ?_⟩) (by assumption) ?_
              rotate_left 1
              · intro w' hSw
                (try dsimp only at hSw)
                obtain ⟨z0, z1, z2, z3, z4, z5, z6⟩ := hSw.1
                clear hSw
                go_simp
                all_goals (with_reducible rfl)
              try (conv => arg 8; simp only [Act.put, List.setIfInBounds_toArray, List.set_cons_zero, List.set_cons_succ])
              clear hHeld
              refine wpAnyH_ready (rs := [12]) (by kernel_rfl) (by simp) ?_
              refine AllReadyH.cons (o := { dst := some 11, op := Op.alloc 30, type := 0, pos := "law.go:179", after := #[], guard := none }) rfl (fun K hK => ?_) AllReadyH.nil
              refine step_newH 11 rfl rfl rfl ?_
              intro gn y5 hG' eg hb
              have hgn : W4.heap.size ≤ gn := by rw [eg]; exact hk.size
              clear eg
              replace hk := kf_step hb hk
              clear hb
              have hG := hG'
              clear hG'
              refine hK.out _ _ (hKP.out _ hk) (fun hHeld => ?_)
              clear hK K
              try (conv => arg 8; simp only [Act.put, List.setIfInBounds_toArray, List.set_cons_zero, List.set_cons_succ])
              clear hHeld
              refine wpAnyH_ready (rs := [13]) (by kernel_rfl) (by simp) ?_
              refine AllReadyH.cons (o := { dst := none, op := Op.store 30 (Operand.tmp 11) (Operand.tmp 42), type := 0, pos := "law.go:179", after := #[{ on := 12, ground := Ground.data }, { on := 10, ground := Ground.data }, { on := 8, ground := Ground.chain }, { on := 0, ground := Ground.phase }, { on := 1, ground := Ground.phase }, { on := 2, ground := Ground.phase }, { on := 3, ground := Ground.phase }, { on := 4, ground := Ground.phase }, { on := 5, ground := Ground.phase }, { on := 6, ground := Ground.phase }, { on := 7, ground := Ground.phase }, { on := 8, ground := Ground.phase }, { on := 9, ground := Ground.phase }, { on := 10, ground := Ground.phase }, { on := 11, ground := Ground.textOnly Departure.lateStores }, { on := 12, ground := Ground.phase }], guard := none }) rfl (fun K hK => ?_) AllReadyH.nil
              refine step_storeH _ _ rfl rfl rfl gn R2 rfl rfl hG ?_
              intro w6 e6
              have hk6 : Below W4.heap.size W4 w6 := by rw [e6.out]; exact hset_below hk hgn _
              refine hK.out _ _ (hKP.out _ hk6) (fun hHeld => ?_)
              clear hK K
              try (conv => arg 8; simp only [Act.put, List.setIfInBounds_toArray, List.set_cons_zero, List.set_cons_succ])
              refine wpAnyH_take (i := 14) (oi := { dst := some 12, op := Op.assign (Operand.tmp 43), type := 31, pos := "law.go:179", after := #[{ on := 11, ground := Ground.data }, { on := 13, ground := Ground.chain }, { on := 0, ground := Ground.phase }, { on := 1, ground := Ground.phase }, { on := 2, ground := Ground.phase }, { on := 3, ground := Ground.phase }, { on := 4, ground := Ground.phase }, { on := 5, ground := Ground.phase }, { on := 6, ground := Ground.phase }, { on := 7, ground := Ground.phase }, { on := 8, ground := Ground.phase }, { on := 9, ground := Ground.phase }, { on := 10, ground := Ground.phase }, { on := 11, ground := Ground.phase }, { on := 12, ground := Ground.phase }, { on := 13, ground := Ground.phase }], guard := none }) (v := ?_) rfl (by kernel_rfl) (by kernel_rfl) (by kernel_rfl) (fun _ _ _ h => h) (Or.inl ⟨by kernel_rfl, ?_⟩) (by assumption) ?_
              rotate_left 1
              · intro w' hSw
                (try dsimp only at hSw)
                obtain ⟨z0, z1, z2, z3, z4, z5, z6⟩ := hSw.1
                clear hSw
                go_simp
                all_goals (with_reducible rfl)
              try (conv => arg 8; simp only [Act.put, List.setIfInBounds_toArray, List.set_cons_zero, List.set_cons_succ])
              refine wpAnyH_done (by kernel_rfl) ?_ _
              try simp only [Act.put, List.getElem_toArray, List.getElem_cons_succ, List.getElem_cons_zero, List.setIfInBounds_toArray, List.set_cons_zero, List.set_cons_succ]
              go_wp2_with fail
              go_meet
              case rel => exact ⟨newH_end hG hk hgn e6.out, rfl⟩
            refine AllReadyH.cons (o := { dst := some 11, op := Op.alloc 30, type := 0, pos := "law.go:179", after := #[], guard := none }) rfl (fun K hK => ?_) AllReadyH.nil
            refine step_newH 11 rfl rfl rfl ?_
            intro gn y4 hG' eg hb
            have hgn : W4.heap.size ≤ gn := by rw [eg]; exact hk.size
            clear eg
            replace hO3 := own_below hO3 hb
            replace hk := kf_step hb hk
            clear hb
            have hG := hG'
            clear hG'
            refine hK.out _ _ (hKP.out _ hk) (fun hHeld => ?_)
            clear hK K
            try (conv => arg 8; simp only [Act.put, List.setIfInBounds_toArray, List.set_cons_zero, List.set_cons_succ])
            clear hHeld
            refine wpAnyH_ready (rs := [8]) (by kernel_rfl) (by simp) ?_
            refine AllReadyH.cons (o := { dst := some 41, op := Op.call { callee := Callee.value (Operand.func 10), args := #[Operand.tmp 38, Operand.tmp 39, Operand.tmp 40], argTypes := #[22, 24, 27] }, type := 32, pos := "law.go:179", after := #[{ on := 5, ground := Ground.data }, { on := 6, ground := Ground.data }, { on := 7, ground := Ground.data }, { on := 5, ground := Ground.chain }], guard := none }) rfl (fun K hK => ?_) AllReadyH.nil
            refine step_call (by kernel_rfl) (ent_Sum ..) ?_
            refine (HS2.out _ _ _ hO3 q3 cr rfl).mono ?_
            rintro e y5 ⟨rfl, hb⟩
            clear hO3
            have hDone : True := trivial
            replace hG := Fr3.below hG hb
            replace hk := kf_step hb hk
            clear hb hDone
            refine hK.out _ _ (hKP.out _ hk) (fun hHeld => ?_)
            clear hK K
            try (conv => arg 8; simp only [Act.put, List.setIfInBounds_toArray, List.set_cons_zero, List.set_cons_succ])
            refine wpAnyH_take (i := 9) (oi := { dst := some 32, op := Op.move (Operand.tmp 41), type := 32, pos := "law.go:179", after := #[{ on := 8, ground := Ground.data }], guard := none }) (v := ?_) rfl (by kernel_rfl) (by kernel_rfl) (by kernel_rfl) (fun _ _ _ h => h) (Or.inl ⟨by kernel_rfl, ?_⟩) (by assumption) ?_
            rotate_left 1
            · intro w' hSw
              (try dsimp only at hSw)
              obtain ⟨z0, z1, z2, z3, z4, z5, z6⟩ := hSw.1
              clear hSw
              go_simp
              all_goals (with_reducible rfl)
            try (conv => arg 8; simp only [Act.put, List.setIfInBounds_toArray, List.set_cons_zero, List.set_cons_succ])
            refine wpAnyH_take (i := 10) (oi := { dst := some 42, op := Op.extract (Operand.tmp 32) 0, type := 30, pos := "law.go:179", after := #[{ on := 9, ground := Ground.data }], guard := none }) (v := ?_) rfl (by kernel_rfl) (by kernel_rfl) (by kernel_rfl) (fun _ _ _ h => h) (Or.inl ⟨by kernel_rfl, ?_⟩) (by assumption) ?_
            rotate_left 1
            · intro w' hSw
              (try dsimp only at hSw)
              obtain ⟨z0, z1, z2, z3, z4, z5, z6⟩ := hSw.1
              clear hSw
              go_simp
              all_goals (with_reducible rfl)
            try (conv => arg 8; simp only [Act.put, List.setIfInBounds_toArray, List.set_cons_zero, List.set_cons_succ])
            refine wpAnyH_take (i := 11) (oi := { dst := some 43, op := Op.extract (Operand.tmp 32) 1, type := 31, pos := "law.go:179", after := #[{ on := 9, ground := Ground.data }, { on := 13, ground := Ground.gcOnly Departure.lateStores }], guard := none }) (v := ?_) rfl (by kernel_rfl) (by kernel_rfl) (by kernel_rfl) (fun _ _ _ h => h) (Or.inl ⟨by kernel_rfl, ?_⟩) (by assumption) ?_
            rotate_left 1
            · intro w' hSw
              (try dsimp only at hSw)
              obtain ⟨z0, z1, z2, z3, z4, z5, z6⟩ := hSw.1
              clear hSw
              go_simp
              all_goals (with_reducible rfl)
            try (conv => arg 8; simp only [Act.put, List.setIfInBounds_toArray, List.set_cons_zero, List.set_cons_succ])
            clear hHeld
            refine wpAnyH_ready (rs := [13]) (by kernel_rfl) (by simp) ?_
            refine AllReadyH.cons (o := { dst := none, op := Op.store 30 (Operand.tmp 11) (Operand.tmp 42), type := 0, pos := "law.go:179", after := #[{ on := 12, ground := Ground.data }, { on := 10, ground := Ground.data }, { on := 8, ground := Ground.chain }, { on := 0, ground := Ground.phase }, { on := 1, ground := Ground.phase }, { on := 2, ground := Ground.phase }, { on := 3, ground := Ground.phase }, { on := 4, ground := Ground.phase }, { on := 5, ground := Ground.phase }, { on := 6, ground := Ground.phase }, { on := 7, ground := Ground.phase }, { on := 8, ground := Ground.phase }, { on := 9, ground := Ground.phase }, { on := 10, ground := Ground.phase }, { on := 11, ground := Ground.textOnly Departure.lateStores }, { on := 12, ground := Ground.phase }], guard := none }) rfl (fun K hK => ?_) AllReadyH.nil
            refine step_storeH _ _ rfl rfl rfl gn R2 rfl rfl hG ?_
            intro w6 e6
            have hk6 : Below W4.heap.size W4 w6 := by rw [e6.out]; exact hset_below hk hgn _
            refine hK.out _ _ (hKP.out _ hk6) (fun hHeld => ?_)
            clear hK K
            try (conv => arg 8; simp only [Act.put, List.setIfInBounds_toArray, List.set_cons_zero, List.set_cons_succ])
            refine wpAnyH_take (i := 14) (oi := { dst := some 12, op := Op.assign (Operand.tmp 43), type := 31, pos := "law.go:179", after := #[{ on := 11, ground := Ground.data }, { on := 13, ground := Ground.chain }, { on := 0, ground := Ground.phase }, { on := 1, ground := Ground.phase }, { on := 2, ground := Ground.phase }, { on := 3, ground := Ground.phase }, { on := 4, ground := Ground.phase }, { on := 5, ground := Ground.phase }, { on := 6, ground := Ground.phase }, { on := 7, ground := Ground.phase }, { on := 8, ground := Ground.phase }, { on := 9, ground := Ground.phase }, { on := 10, ground := Ground.phase }, { on := 11, ground := Ground.phase }, { on := 12, ground := Ground.phase }, { on := 13, ground := Ground.phase }], guard := none }) (v := ?_) rfl (by kernel_rfl) (by kernel_rfl) (by kernel_rfl) (fun _ _ _ h => h) (Or.inl ⟨by kernel_rfl, ?_⟩) (by assumption) ?_
            rotate_left 1
            · intro w' hSw
              (try dsimp only at hSw)
              obtain ⟨z0, z1, z2, z3, z4, z5, z6⟩ := hSw.1
              clear hSw
              go_simp
              all_goals (with_reducible rfl)
            try (conv => arg 8; simp only [Act.put, List.setIfInBounds_toArray, List.set_cons_zero, List.set_cons_succ])
            refine wpAnyH_done (by kernel_rfl) ?_ _
            try simp only [Act.put, List.getElem_toArray, List.getElem_cons_succ, List.getElem_cons_zero, List.setIfInBounds_toArray, List.set_cons_zero, List.set_cons_succ]
            go_wp2_with fail
            go_meet
            case rel => exact ⟨newH_end hG hk hgn e6.out, rfl⟩
          refine AllReadyH.cons (o := { dst := some 11, op := Op.alloc 30, type := 0, pos := "law.go:179", after := #[], guard := none }) rfl (fun K hK => ?_) AllReadyH.nil
          refine step_newH 11 rfl rfl rfl ?_
          intro gn y3 hG' eg hb
          have hgn : W4.heap.size ≤ gn := by rw [eg]; exact hk.size
          clear eg
          replace hO2 := own_below hO2 hb
          replace hT := OneE.below hT hb
          replace hk := kf_step hb hk
          clear hb
          have hG := hG'
          clear hG'
          refine hK.out _ _ (hKP.out _ hk) (fun hHeld => ?_)
          clear hK K
          try (conv => arg 8; simp only [Act.put, List.setIfInBounds_toArray, List.set_cons_zero, List.set_cons_succ])
          clear hHeld
          refine wpAnyH_ready (rs := [5]) (by kernel_rfl) (by simp) ?_
          refine AllReadyH.cons (o := { dst := some 38, op := Op.call { callee := Callee.builtin Builtin.append, args := #[Operand.tmp 35, Operand.tmp 37], argTypes := #[22, 22] }, type := 22, pos := "law.go:179", after := #[{ on := 2, ground := Ground.data }, { on := 4, ground := Ground.data }, { on := 2, ground := Ground.chain }], guard := none }) rfl (fun K hK => ?_) AllReadyH.nil
          refine step_app 38 _ _ rfl rfl rfl W4.heap.size v2 n (lsE f n) rfl hO2 (some ⟨gt, 0, none⟩) 1 1 (fun _ => x) rfl (OneE.ents hT) (by omega) hk.size ?_
          intro v3 y4 hO3 hgr hat
          replace hG := Fr3.grown hG hgr (Fr3.far hG hO2)
          replace hk := kf_grown hgr hk hO2
          clear hgr hat hO2 hT hne2
          obtain ⟨q3, cr, rfl⟩ := own_slice hO3
          rw [← HLL.out] at hO3
          refine hK.out _ _ (hKP.out _ hk) (fun hHeld => ?_)
          clear hK K
          try (conv => arg 8; simp only [Act.put, List.setIfInBounds_toArray, List.set_cons_zero, List.set_cons_succ])
          clear hHeld
          refine wpAnyH_ready (rs := [8]) (by kernel_rfl) (by simp) ?_
          refine AllReadyH.cons (o := { dst := some 41, op := Op.call { callee := Callee.value (Operand.func 10), args := #[Operand.tmp 38, Operand.tmp 39, Operand.tmp 40], argTypes := #[22, 24, 27] }, type := 32, pos := "law.go:179", after := #[{ on := 5, ground := Ground.data }, { on := 6, ground := Ground.data }, { on := 7, ground := Ground.data }, { on := 5, ground := Ground.chain }], guard := none }) rfl (fun K hK => ?_) AllReadyH.nil
          refine step_call (by kernel_rfl) (ent_Sum ..) ?_
          refine (HS2.out _ _ _ hO3 q3 cr rfl).mono ?_
          rintro e y5 ⟨rfl, hb⟩
          clear hO3
          have hDone : True := trivial
          replace hG := Fr3.below hG hb
          replace hk := kf_step hb hk
          clear hb hDone
          refine hK.out _ _ (hKP.out _ hk) (fun hHeld => ?_)
          clear hK K
          try (conv => arg 8; simp only [Act.put, List.setIfInBounds_toArray, List.set_cons_zero, List.set_cons_succ])
          refine wpAnyH_take (i := 9) (oi := { dst := some 32, op := Op.move (Operand.tmp 41), type := 32, pos := "law.go:179", after := #[{ on := 8, ground := Ground.data }], guard := none }) (v := ?_) rfl (by kernel_rfl) (by kernel_rfl) (by kernel_rfl) (fun _ _ _ h => h) (Or.inl ⟨by kernel_rfl, ?_⟩) (by assumption) ?_
          rotate_left 1
          · intro w' hSw
            (try dsimp only at hSw)
            obtain ⟨z0, z1, z2, z3, z4, z5, z6⟩ := hSw.1
            clear hSw
            go_simp
            all_goals (with_reducible rfl)
          try (conv => arg 8; simp only [Act.put, List.setIfInBounds_toArray, List.set_cons_zero, List.set_cons_succ])
          refine wpAnyH_take (i := 10) (oi := { dst := some 42, op := Op.extract (Operand.tmp 32) 0, type := 30, pos := "law.go:179", after := #[{ on := 9, ground := Ground.data }], guard := none }) (v := ?_) rfl (by kernel_rfl) (by kernel_rfl) (by kernel_rfl) (fun _ _ _ h => h) (Or.inl ⟨by kernel_rfl, ?_⟩) (by assumption) ?_
          rotate_left 1
          · intro w' hSw
            (try dsimp only at hSw)
            obtain ⟨z0, z1, z2, z3, z4, z5, z6⟩ := hSw.1
            clear hSw
            go_simp
            all_goals (with_reducible rfl)
          try (conv => arg 8; simp only [Act.put, List.setIfInBounds_toArray, List.set_cons_zero, List.set_cons_succ])
          refine wpAnyH_take (i := 11) (oi := { dst := some 43, op := Op.extract (Operand.tmp 32) 1, type := 31, pos := "law.go:179", after := #[{ on := 9, ground := Ground.data }, { on := 13, ground := Ground.gcOnly Departure.lateStores }], guard := none }) (v := ?_) rfl (by kernel_rfl) (by kernel_rfl) (by kernel_rfl) (fun _ _ _ h => h) (Or.inl ⟨by kernel_rfl, ?_⟩) (by assumption) ?_
          rotate_left 1
          · intro w' hSw
            (try dsimp only at hSw)
            obtain ⟨z0, z1, z2, z3, z4, z5, z6⟩ := hSw.1
            clear hSw
            go_simp
            all_goals (with_reducible rfl)
          try (conv => arg 8; simp only [Act.put, List.setIfInBounds_toArray, List.set_cons_zero, List.set_cons_succ])
          clear hHeld
          refine wpAnyH_ready (rs := [13]) (by kernel_rfl) (by simp) ?_
          refine AllReadyH.cons (o := { dst := none, op := Op.store 30 (Operand.tmp 11) (Operand.tmp 42), type := 0, pos := "law.go:179", after := #[{ on := 12, ground := Ground.data }, { on := 10, ground := Ground.data }, { on := 8, ground := Ground.chain }, { on := 0, ground := Ground.phase }, { on := 1, ground := Ground.phase }, { on := 2, ground := Ground.phase }, { on := 3, ground := Ground.phase }, { on := 4, ground := Ground.phase }, { on := 5, ground := Ground.phase }, { on := 6, ground := Ground.phase }, { on := 7, ground := Ground.phase }, { on := 8, ground := Ground.phase }, { on := 9, ground := Ground.phase }, { on := 10, ground := Ground.phase }, { on := 11, ground := Ground.textOnly Departure.lateStores }, { on := 12, ground := Ground.phase }], guard := none }) rfl (fun K hK => ?_) AllReadyH.nil
          refine step_storeH _ _ rfl rfl rfl gn R2 rfl rfl hG ?_
          intro w6 e6
          have hk6 : Below W4.heap.size W4 w6 := by rw [e6.out]; exact hset_below hk hgn _
          refine hK.out _ _ (hKP.out _ hk6) (fun hHeld => ?_)
          clear hK K
          try (conv => arg 8; simp only [Act.put, List.setIfInBounds_toArray, List.set_cons_zero, List.set_cons_succ])
          refine wpAnyH_take (i := 14) (oi := { dst := some 12, op := Op.assign (Operand.tmp 43), type := 31, pos := "law.go:179", after := #[{ on := 11, ground := Ground.data }, { on := 13, ground := Ground.chain }, { on := 0, ground := Ground.phase }, { on := 1, ground := Ground.phase }, { on := 2, ground := Ground.phase }, { on := 3, ground := Ground.phase }, { on := 4, ground := Ground.phase }, { on := 5, ground := Ground.phase }, { on := 6, ground := Ground.phase }, { on := 7, ground := Ground.phase }, { on := 8, ground := Ground.phase }, { on := 9, ground := Ground.phase }, { on := 10, ground := Ground.phase }, { on := 11, ground := Ground.phase }, { on := 12, ground := Ground.phase }, { on := 13, ground := Ground.phase }], guard := none }) (v := ?_) rfl (by kernel_rfl) (by kernel_rfl) (by kernel_rfl) (fun _ _ _ h => h) (Or.inl ⟨by kernel_rfl, ?_⟩) (by assumption) ?_
          rotate_left 1
          · intro w' hSw
            (try dsimp only at hSw)
            obtain ⟨z0, z1, z2, z3, z4, z5, z6⟩ := hSw.1
            clear hSw
            go_simp
            all_goals (with_reducible rfl)
          try (conv => arg 8; simp only [Act.put, List.setIfInBounds_toArray, List.set_cons_zero, List.set_cons_succ])
          refine wpAnyH_done (by kernel_rfl) ?_ _
          try simp only [Act.put, List.getElem_toArray, List.getElem_cons_succ, List.getElem_cons_zero, List.setIfInBounds_toArray, List.set_cons_zero, List.set_cons_succ]
          go_wp2_with fail
          go_meet
          case rel => exact ⟨newH_end hG hk hgn e6.out, rfl⟩
        refine AllReadyH.cons (o := { dst := some 11, op := Op.alloc 30, type := 0, pos := "law.go:179", after := #[], guard := none }) rfl (fun K hK => ?_) AllReadyH.nil
        refine step_newH 11 rfl rfl rfl ?_
        intro gn y2 hG' eg hb
        have hgn : W4.heap.size ≤ gn := by rw [eg]; exact hk.size
        clear eg
        replace hO := own_below hO hb
        replace hT := OneE.below hT hb
        replace hk := kf_step hb hk
        clear hb
        have hG := hG'
        clear hG'
        refine hK.out _ _ (hKP.out _ hk) (fun hHeld => ?_)
        clear hK K
        try (conv => arg 8; simp only [Act.put, List.setIfInBounds_toArray, List.set_cons_zero, List.set_cons_succ])
        clear hHeld
        refine wpAnyH_ready (rs := [2]) (by kernel_rfl) (by simp) ?_
        refine AllReadyH.cons (o := { dst := some 35, op := Op.call { callee := Callee.builtin Builtin.append, args := #[Operand.tmp 33, Operand.tmp 34], argTypes := #[22, 22] }, type := 22, pos := "law.go:179", after := #[{ on := 0, ground := Ground.data }, { on := 1, ground := Ground.data }], guard := none }) rfl (fun K hK => ?_) AllReadyH.nil
        refine step_app 35 _ _ rfl rfl rfl W4.heap.size v 0 [] rfl hO a n c f rfl (HE4.out.below hk) (by omega) hk.size ?_
        intro v2 y3 hO2 hgr hat
        replace hG := Fr3.grown hG hgr (Fr3.far hG hO)
        have hne2 := ne_app hne (lt_of_at hT) hat
        replace hT := OneE.grown hT hgr hne
        clear hne
        replace hk := kf_grown hgr hk hO
        clear hgr hat hO
        rw [List.nil_append, Nat.zero_add] at hO2
        refine hK.out _ _ (hKP.out _ hk) (fun hHeld => ?_)
        clear hK K
        try (conv => arg 8; simp only [Act.put, List.setIfInBounds_toArray, List.set_cons_zero, List.set_cons_succ])
        clear hHeld
        refine wpAnyH_ready (rs := [5]) (by kernel_rfl) (by simp) ?_
        refine AllReadyH.cons (o := { dst := some 38, op := Op.call { callee := Callee.builtin Builtin.append, args := #[Operand.tmp 35, Operand.tmp 37], argTypes := #[22, 22] }, type := 22, pos := "law.go:179", after := #[{ on := 2, ground := Ground.data }, { on := 4, ground := Ground.data }, { on := 2, ground := Ground.chain }], guard := none }) rfl (fun K hK => ?_) AllReadyH.nil
        refine step_app 38 _ _ rfl rfl rfl W4.heap.size v2 n (lsE f n) rfl hO2 (some ⟨gt, 0, none⟩) 1 1 (fun _ => x) rfl (OneE.ents hT) (by omega) hk.size ?_
        intro v3 y4 hO3 hgr hat
        replace hG := Fr3.grown hG hgr (Fr3.far hG hO2)
        replace hk := kf_grown hgr hk hO2
        clear hgr hat hO2 hT hne2
        obtain ⟨q3, cr, rfl⟩ := own_slice hO3
        rw [← HLL.out] at hO3
        refine hK.out _ _ (hKP.out _ hk) (fun hHeld => ?_)
        clear hK K
        try (conv => arg 8; simp only [Act.put, List.setIfInBounds_toArray, List.set_cons_zero, List.set_cons_succ])
        clear hHeld
        refine wpAnyH_ready (rs := [8]) (by kernel_rfl) (by simp) ?_
        refine AllReadyH.cons (o := { dst := some 41, op := Op.call { callee := Callee.value (Operand.func 10), args := #[Operand.tmp 38, Operand.tmp 39, Operand.tmp 40], argTypes := #[22, 24, 27] }, type := 32, pos := "law.go:179", after := #[{ on := 5, ground := Ground.data }, { on := 6, ground := Ground.data }, { on := 7, ground := Ground.data }, { on := 5, ground := Ground.chain }], guard := none }) rfl (fun K hK => ?_) AllReadyH.nil
        refine step_call (by kernel_rfl) (ent_Sum ..) ?_
        refine (HS2.out _ _ _ hO3 q3 cr rfl).mono ?_
        rintro e y5 ⟨rfl, hb⟩
        clear hO3
        have hDone : True := trivial
        replace hG := Fr3.below hG hb
        replace hk := kf_step hb hk
        clear hb hDone
        refine hK.out _ _ (hKP.out _ hk) (fun hHeld => ?_)
        clear hK K
        try (conv => arg 8; simp only [Act.put, List.setIfInBounds_toArray, List.set_cons_zero, List.set_cons_succ])
        refine wpAnyH_take (i := 9) (oi := { dst := some 32, op := Op.move (Operand.tmp 41), type := 32, pos := "law.go:179", after := #[{ on := 8, ground := Ground.data }], guard := none }) (v := ?_) rfl (by kernel_rfl) (by kernel_rfl) (by kernel_rfl) (fun _ _ _ h => h) (Or.inl ⟨by kernel_rfl, ?_⟩) (by assumption) ?_
        rotate_left 1
        · intro w' hSw
          (try dsimp only at hSw)
          obtain ⟨z0, z1, z2, z3, z4, z5, z6⟩ := hSw.1
          clear hSw
          go_simp
          all_goals (with_reducible rfl)
        try (conv => arg 8; simp only [Act.put, List.setIfInBounds_toArray, List.set_cons_zero, List.set_cons_succ])
        refine wpAnyH_take (i := 10) (oi := { dst := some 42, op := Op.extract (Operand.tmp 32) 0, type := 30, pos := "law.go:179", after := #[{ on := 9, ground := Ground.data }], guard := none }) (v := ?_) rfl (by kernel_rfl) (by kernel_rfl) (by kernel_rfl) (fun _ _ _ h => h) (Or.inl ⟨by kernel_rfl, ?_⟩) (by assumption) ?_
        rotate_left 1
        · intro w' hSw
          (try dsimp only at hSw)
          obtain ⟨z0, z1, z2, z3, z4, z5, z6⟩ := hSw.1
          clear hSw
          go_simp
          all_goals (with_reducible rfl)
        try (conv => arg 8; simp only [Act.put, List.setIfInBounds_toArray, List.set_cons_zero, List.set_cons_succ])
        refine wpAnyH_take (i := 11) (oi := { dst := some 43, op := Op.extract (Operand.tmp 32) 1, type := 31, pos := "law.go:179", after := #[{ on := 9, ground := Ground.data }, { on := 13, ground := Ground.gcOnly Departure.lateStores }], guard := none }) (v := ?_) rfl (by kernel_rfl) (by kernel_rfl) (by kernel_rfl) (fun _ _ _ h => h) (Or.inl ⟨by kernel_rfl, ?_⟩) (by assumption) ?_
        rotate_left 1
        · intro w' hSw
          (try dsimp only at hSw)
          obtain ⟨z0, z1, z2, z3, z4, z5, z6⟩ := hSw.1
          clear hSw
          go_simp
          all_goals (with_reducible rfl)
        try (conv => arg 8; simp only [Act.put, List.setIfInBounds_toArray, List.set_cons_zero, List.set_cons_succ])
        clear hHeld
        refine wpAnyH_ready (rs := [13]) (by kernel_rfl) (by simp) ?_
        refine AllReadyH.cons (o := { dst := none, op := Op.store 30 (Operand.tmp 11) (Operand.tmp 42), type := 0, pos := "law.go:179", after := #[{ on := 12, ground := Ground.data }, { on := 10, ground := Ground.data }, { on := 8, ground := Ground.chain }, { on := 0, ground := Ground.phase }, { on := 1, ground := Ground.phase }, { on := 2, ground := Ground.phase }, { on := 3, ground := Ground.phase }, { on := 4, ground := Ground.phase }, { on := 5, ground := Ground.phase }, { on := 6, ground := Ground.phase }, { on := 7, ground := Ground.phase }, { on := 8, ground := Ground.phase }, { on := 9, ground := Ground.phase }, { on := 10, ground := Ground.phase }, { on := 11, ground := Ground.textOnly Departure.lateStores }, { on := 12, ground := Ground.phase }], guard := none }) rfl (fun K hK => ?_) AllReadyH.nil
        refine step_storeH _ _ rfl rfl rfl gn R2 rfl rfl hG ?_
        intro w6 e6
        have hk6 : Below W4.heap.size W4 w6 := by rw [e6.out]; exact hset_below hk hgn _
        refine hK.out _ _ (hKP.out _ hk6) (fun hHeld => ?_)
        clear hK K
        try (conv => arg 8; simp only [Act.put, List.setIfInBounds_toArray, List.set_cons_zero, List.set_cons_succ])
        refine wpAnyH_take (i := 14) (oi := { dst := some 12, op := Op.assign (Operand.tmp 43), type := 31, pos := "law.go:179", after := #[{ on := 11, ground := Ground.data }, { on := 13, ground := Ground.chain }, { on := 0, ground := Ground.phase }, { on := 1, ground := Ground.phase }, { on := 2, ground := Ground.phase }, { on := 3, ground := Ground.phase }, { on := 4, ground := Ground.phase }, { on := 5, ground := Ground.phase }, { on := 6, ground := Ground.phase }, { on := 7, ground := Ground.phase }, { on := 8, ground := Ground.phase }, { on := 9, ground := Ground.phase }, { on := 10, ground := Ground.phase }, { on := 11, ground := Ground.phase }, { on := 12, ground := Ground.phase }, { on := 13, ground := Ground.phase }], guard := none }) (v := ?_) rfl (by kernel_rfl) (by kernel_rfl) (by kernel_rfl) (fun _ _ _ h => h) (Or.inl ⟨by kernel_rfl, ?_⟩) (by assumption) ?_
        rotate_left 1
        · intro w' hSw
          (try dsimp only at hSw)
          obtain ⟨z0, z1, z2, z3, z4, z5, z6⟩ := hSw.1
          clear hSw
          go_simp
          all_goals (with_reducible rfl)
        try (conv => arg 8; simp only [Act.put, List.setIfInBounds_toArray, List.set_cons_zero, List.set_cons_succ])
        refine wpAnyH_done (by kernel_rfl) ?_ _
        try simp only [Act.put, List.getElem_toArray, List.getElem_cons_succ, List.getElem_cons_zero, List.setIfInBounds_toArray, List.set_cons_zero, List.set_cons_succ]
        go_wp2_with fail
        go_meet
        case rel => exact ⟨newH_end hG hk hgn e6.out, rfl⟩
      refine AllReadyH.cons (o := { dst := some 11, op := Op.alloc 30, type := 0, pos := "law.go:179", after := #[], guard := none }) rfl (fun K hK => ?_) AllReadyH.nil
      refine step_newH 11 rfl rfl rfl ?_
      intro gn y1 hG' eg hb
      have hgn : W4.heap.size ≤ gn := by rw [eg]; exact hk.size
      clear eg
      replace hO := own_below hO hb
      replace hk := kf_step hb hk
      clear hb
      have hG := hG'
      clear hG'
      refine hK.out _ _ (hKP.out _ hk) (fun hHeld => ?_)
      clear hK K
      try (conv => arg 8; simp only [Act.put, List.setIfInBounds_toArray, List.set_cons_zero, List.set_cons_succ])
      clear hHeld
      refine wpAnyH_ready (rs := [2,4]) (by kernel_rfl) (by simp) ?_
      refine AllReadyH.cons (o := { dst := some 35, op := Op.call { callee := Callee.builtin Builtin.append, args := #[Operand.tmp 33, Operand.tmp 34], argTypes := #[22, 22] }, type := 22, pos := "law.go:179", after := #[{ on := 0, ground := Ground.data }, { on := 1, ground := Ground.data }], guard := none }) rfl (fun K hK => ?_) ?_
      · as_aux_lemma =>
        refine step_app 35 _ _ rfl rfl rfl W4.heap.size v 0 [] rfl hO a n c f rfl (HE4.out.below hk) (by omega) hk.size ?_
        intro v2 y2 hO2 hgr hat
        replace hG := Fr3.grown hG hgr (Fr3.far hG hO)
        replace hk := kf_grown hgr hk hO
        clear hgr hat hO
        rw [List.nil_append, Nat.zero_add] at hO2
        refine hK.out _ _ (hKP.out _ hk) (fun hHeld => ?_)
        clear hK K
        try (conv => arg 8; simp only [Act.put, List.setIfInBounds_toArray, List.set_cons_zero, List.set_cons_succ])
        clear hHeld
        refine wpAnyH_ready (rs := [4]) (by kernel_rfl) (by simp) ?_
        refine AllReadyH.cons (o := { dst := some 37, op := Op.buildSlice 22 1 #[(0, Operand.tmp 36)], type := 22, pos := "law.go:179", after := #[{ on := 3, ground := Ground.data }], guard := none }) rfl (fun K hK => ?_) AllReadyH.nil
        refine step_bs1 37 _ x rfl rfl rfl rfl ?_
        intro gt y3 hT' et hb
        have hne2 := own_lt hO2 (g := gt) (by omega)
        clear et
        replace hO2 := own_below hO2 hb
        replace hG := Fr3.below hG hb
        replace hk := kf_step hb hk
        clear hb
        have hT := hT'
        clear hT'
        refine hK.out _ _ (hKP.out _ hk) (fun hHeld => ?_)
        clear hK K
        try (conv => arg 8; simp only [Act.put, List.setIfInBounds_toArray, List.set_cons_zero, List.set_cons_succ])
        clear hHeld
        refine wpAnyH_ready (rs := [5]) (by kernel_rfl) (by simp) ?_
        refine AllReadyH.cons (o := { dst := some 38, op := Op.call { callee := Callee.builtin Builtin.append, args := #[Operand.tmp 35, Operand.tmp 37], argTypes := #[22, 22] }, type := 22, pos := "law.go:179", after := #[{ on := 2, ground := Ground.data }, { on := 4, ground := Ground.data }, { on := 2, ground := Ground.chain }], guard := none }) rfl (fun K hK => ?_) AllReadyH.nil
        refine step_app 38 _ _ rfl rfl rfl W4.heap.size v2 n (lsE f n) rfl hO2 (some ⟨gt, 0, none⟩) 1 1 (fun _ => x) rfl (OneE.ents hT) (by omega) hk.size ?_
        intro v3 y4 hO3 hgr hat
        replace hG := Fr3.grown hG hgr (Fr3.far hG hO2)
        replace hk := kf_grown hgr hk hO2
        clear hgr hat hO2 hT hne2
        obtain ⟨q3, cr, rfl⟩ := own_slice hO3
        rw [← HLL.out] at hO3
        refine hK.out _ _ (hKP.out _ hk) (fun hHeld => ?_)
        clear hK K
        try (conv => arg 8; simp only [Act.put, List.setIfInBounds_toArray, List.set_cons_zero, List.set_cons_succ])
        clear hHeld
        refine wpAnyH_ready (rs := [8]) (by kernel_rfl) (by simp) ?_
        refine AllReadyH.cons (o := { dst := some 41, op := Op.call { callee := Callee.value (Operand.func 10), args := #[Operand.tmp 38, Operand.tmp 39, Operand.tmp 40], argTypes := #[22, 24, 27] }, type := 32, pos := "law.go:179", after := #[{ on := 5, ground := Ground.data }, { on := 6, ground := Ground.data }, { on := 7, ground := Ground.data }, { on := 5, ground := Ground.chain }], guard := none }) rfl (fun K hK => ?_) AllReadyH.nil
        refine step_call (by kernel_rfl) (ent_Sum ..) ?_
        refine (HS2.out _ _ _ hO3 q3 cr rfl).mono ?_
        rintro e y5 ⟨rfl, hb⟩
        clear hO3
        have hDone : True := trivial
        replace hG := Fr3.below hG hb
        replace hk := kf_step hb hk
        clear hb hDone
        refine hK.out _ _ (hKP.out _ hk) (fun hHeld => ?_)
        clear hK K
        try (conv => arg 8; simp only [Act.put, List.setIfInBounds_toArray, List.set_cons_zero, List.set_cons_succ])
        refine wpAnyH_take (i := 9) (oi := { dst := some 32, op := Op.move (Operand.tmp 41), type := 32, pos := "law.go:179", after := #[{ on := 8, ground := Ground.data }], guard := none }) (v := ?_) rfl (by kernel_rfl) (by kernel_rfl) (by kernel_rfl) (fun _ _ _ h => h) (Or.inl ⟨by kernel_rfl, ?_⟩) (by assumption) ?_
        rotate_left 1
        · intro w' hSw
          (try dsimp only at hSw)
          obtain ⟨z0, z1, z2, z3, z4, z5, z6⟩ := hSw.1
          clear hSw
          go_simp
          all_goals (with_reducible rfl)
        try (conv => arg 8; simp only [Act.put, List.setIfInBounds_toArray, List.set_cons_zero, List.set_cons_succ])
        refine wpAnyH_take (i := 10) (oi := { dst := some 42, op := Op.extract (Operand.tmp 32) 0, type := 30, pos := "law.go:179", after := #[{ on := 9, ground := Ground.data }], guard := none }) (v := ?_) rfl (by kernel_rfl) (by kernel_rfl) (by kernel_rfl) (fun _ _ _ h => h) (Or.inl ⟨by kernel_rfl, ?_⟩) (by assumption) ?_
        rotate_left 1
        · intro w' hSw
          (try dsimp only at hSw)
          obtain ⟨z0, z1, z2, z3, z4, z5, z6⟩ := hSw.1
          clear hSw
          go_simp
          all_goals (with_reducible rfl)
        try (conv => arg 8; simp only [Act.put, List.setIfInBounds_toArray, List.set_cons_zero, List.set_cons_succ])
        refine wpAnyH_take (i := 11) (oi := { dst := some 43, op := Op.extract (Operand.tmp 32) 1, type := 31, pos := "law.go:179", after := #[{ on := 9, ground := Ground.data }, { on := 13, ground := Ground.gcOnly Departure.lateStores }], guard := none }) (v := ?_) rfl (by kernel_rfl) (by kernel_rfl) (by kernel_rfl) (fun _ _ _ h => h) (Or.inl ⟨by kernel_rfl, ?_⟩) (by assumption) ?_
        rotate_left 1
        · intro w' hSw
          (try dsimp only at hSw)
          obtain ⟨z0, z1, z2, z3, z4, z5, z6⟩ := hSw.1
          clear hSw
          go_simp
          all_goals (with_reducible rfl)
        try (conv => arg 8; simp only [Act.put, List.setIfInBounds_toArray, List.set_cons_zero, List.set_cons_succ])
        clear hHeld
        refine wpAnyH_ready (rs := [13]) (by kernel_rfl) (by simp) ?_
        refine AllReadyH.cons (o := { dst := none, op := Op.store 30 (Operand.tmp 11) (Operand.tmp 42), type := 0, pos := "law.go:179", after := #[{ on := 12, ground := Ground.data }, { on := 10, ground := Ground.data }, { on := 8, ground := Ground.chain }, { on := 0, ground := Ground.phase }, { on := 1, ground := Ground.phase }, { on := 2, ground := Ground.phase }, { on := 3, ground := Ground.phase }, { on := 4, ground := Ground.phase }, { on := 5, ground := Ground.phase }, { on := 6, ground := Ground.phase }, { on := 7, ground := Ground.phase }, { on := 8, ground := Ground.phase }, { on := 9, ground := Ground.phase }, { on := 10, ground := Ground.phase }, { on := 11, ground := Ground.textOnly Departure.lateStores }, { on := 12, ground := Ground.phase }], guard := none }) rfl (fun K hK => ?_) AllReadyH.nil
        refine step_storeH _ _ rfl rfl rfl gn R2 rfl rfl hG ?_
        intro w6 e6
        have hk6 : Below W4.heap.size W4 w6 := by rw [e6.out]; exact hset_below hk hgn _
        refine hK.out _ _ (hKP.out _ hk6) (fun hHeld => ?_)
        clear hK K
        try (conv => arg 8; simp only [Act.put, List.setIfInBounds_toArray, List.set_cons_zero, List.set_cons_succ])
        refine wpAnyH_take (i := 14) (oi := { dst := some 12, op := Op.assign (Operand.tmp 43), type := 31, pos := "law.go:179", after := #[{ on := 11, ground := Ground.data }, { on := 13, ground := Ground.chain }, { on := 0, ground := Ground.phase }, { on := 1, ground := Ground.phase }, { on := 2, ground := Ground.phase }, { on := 3, ground := Ground.phase }, { on := 4, ground := Ground.phase }, { on := 5, ground := Ground.phase }, { on := 6, ground := Ground.phase }, { on := 7, ground := Ground.phase }, { on := 8, ground := Ground.phase }, { on := 9, ground := Ground.phase }, { on := 10, ground := Ground.phase }, { on := 11, ground := Ground.phase }, { on := 12, ground := Ground.phase }, { on := 13, ground := Ground.phase }], guard := none }) (v := ?_) rfl (by kernel_rfl) (by kernel_rfl) (by kernel_rfl) (fun _ _ _ h => h) (Or.inl ⟨by kernel_rfl, ?_⟩) (by assumption) ?_
        rotate_left 1
        · intro w' hSw
          (try dsimp only at hSw)
          obtain ⟨z0, z1, z2, z3, z4, z5, z6⟩ := hSw.1
          clear hSw
          go_simp
          all_goals (with_reducible rfl)
        try (conv => arg 8; simp only [Act.put, List.setIfInBounds_toArray, List.set_cons_zero, List.set_cons_succ])
        refine wpAnyH_done (by kernel_rfl) ?_ _
        try simp only [Act.put, List.getElem_toArray, List.getElem_cons_succ, List.getElem_cons_zero, List.setIfInBounds_toArray, List.set_cons_zero, List.set_cons_succ]
        go_wp2_with fail
        go_meet
        case rel => exact ⟨newH_end hG hk hgn e6.out, rfl⟩
      refine AllReadyH.cons (o := { dst := some 37, op := Op.buildSlice 22 1 #[(0, Operand.tmp 36)], type := 22, pos := "law.go:179", after := #[{ on := 3, ground := Ground.data }], guard := none }) rfl (fun K hK => ?_) AllReadyH.nil
      refine step_bs1 37 _ x rfl rfl rfl rfl ?_
      intro gt y2 hT' et hb
      have hne := own_lt hO (g := gt) (by omega)
      clear et
      replace hO := own_below hO hb
      replace hG := Fr3.below hG hb
      replace hk := kf_step hb hk
      clear hb
      have hT := hT'
      clear hT'
      refine hK.out _ _ (hKP.out _ hk) (fun hHeld => ?_)
      clear hK K
      try (conv => arg 8; simp only [Act.put, List.setIfInBounds_toArray, List.set_cons_zero, List.set_cons_succ])
      clear hHeld
      refine wpAnyH_ready (rs := [2]) (by kernel_rfl) (by simp) ?_
      refine AllReadyH.cons (o := { dst := some 35, op := Op.call { callee := Callee.builtin Builtin.append, args := #[Operand.tmp 33, Operand.tmp 34], argTypes := #[22, 22] }, type := 22, pos := "law.go:179", after := #[{ on := 0, ground := Ground.data }, { on := 1, ground := Ground.data }], guard := none }) rfl (fun K hK => ?_) AllReadyH.nil
      refine step_app 35 _ _ rfl rfl rfl W4.heap.size v 0 [] rfl hO a n c f rfl (HE4.out.below hk) (by omega) hk.size ?_
      intro v2 y3 hO2 hgr hat
      replace hG := Fr3.grown hG hgr (Fr3.far hG hO)
      have hne2 := ne_app hne (lt_of_at hT) hat
      replace hT := OneE.grown hT hgr hne
      clear hne
      replace hk := kf_grown hgr hk hO
      clear hgr hat hO
      rw [List.nil_append, Nat.zero_add] at hO2
      refine hK.out _ _ (hKP.out _ hk) (fun hHeld => ?_)
      clear hK K
      try (conv => arg 8; simp only [Act.put, List.setIfInBounds_toArray, List.set_cons_zero, List.set_cons_succ])
      clear hHeld
      refine wpAnyH_ready (rs := [5]) (by kernel_rfl) (by simp) ?_
      refine AllReadyH.cons (o := { dst := some 38, op := Op.call { callee := Callee.builtin Builtin.append, args := #[Operand.tmp 35, Operand.tmp 37], argTypes := #[22, 22] }, type := 22, pos := "law.go:179", after := #[{ on := 2, ground := Ground.data }, { on := 4, ground := Ground.data }, { on := 2, ground := Ground.chain }], guard := none }) rfl (fun K hK => ?_) AllReadyH.nil
      refine step_app 38 _ _ rfl rfl rfl W4.heap.size v2 n (lsE f n) rfl hO2 (some ⟨gt, 0, none⟩) 1 1 (fun _ => x) rfl (OneE.ents hT) (by omega) hk.size ?_
      intro v3 y4 hO3 hgr hat
      replace hG := Fr3.grown hG hgr (Fr3.far hG hO2)
      replace hk := kf_grown hgr hk hO2
      clear hgr hat hO2 hT hne2
      obtain ⟨q3, cr, rfl⟩ := own_slice hO3
      rw [← HLL.out] at hO3
      refine hK.out _ _ (hKP.out _ hk) (fun hHeld => ?_)
      clear hK K
      try (conv => arg 8; simp only [Act.put, List.setIfInBounds_toArray, List.set_cons_zero, List.set_cons_succ])
      clear hHeld
      refine wpAnyH_ready (rs := [8]) (by kernel_rfl) (by simp) ?_
      refine AllReadyH.cons (o := { dst := some 41, op := Op.call { callee := Callee.value (Operand.func 10), args := #[Operand.tmp 38, Operand.tmp 39, Operand.tmp 40], argTypes := #[22, 24, 27] }, type := 32, pos := "law.go:179", after := #[{ on := 5, ground := Ground.data }, { on := 6, ground := Ground.data }, { on := 7, ground := Ground.data }, { on := 5, ground := Ground.chain }], guard := none }) rfl (fun K hK => ?_) AllReadyH.nil
      refine step_call (by kernel_rfl) (ent_Sum ..) ?_
      refine (HS2.out _ _ _ hO3 q3 cr rfl).mono ?_
      rintro e y5 ⟨rfl, hb⟩
      clear hO3
      have hDone : True := trivial
      replace hG := Fr3.below hG hb
      replace hk := kf_step hb hk
      clear hb hDone
      refine hK.out _ _ (hKP.out _ hk) (fun hHeld => ?_)
      clear hK K
      try (conv => arg 8; simp only [Act.put, List.setIfInBounds_toArray, List.set_cons_zero, List.set_cons_succ])
      refine wpAnyH_take (i := 9) (oi := { dst := some 32, op := Op.move (Operand.tmp 41), type := 32, pos := "law.go:179", after := #[{ on := 8, ground := Ground.data }], guard := none }) (v := ?_) rfl (by kernel_rfl) (by kernel_rfl) (by kernel_rfl) (fun _ _ _ h => h) (Or.inl ⟨by kernel_rfl, ?_⟩) (by assumption) ?_
      rotate_left 1
      · intro w' hSw
        (try dsimp only at hSw)
        obtain ⟨z0, z1, z2, z3, z4, z5, z6⟩ := hSw.1
        clear hSw
        go_simp
        all_goals (with_reducible rfl)
      try (conv => arg 8; simp only [Act.put, List.setIfInBounds_toArray, List.set_cons_zero, List.set_cons_succ])
      refine wpAnyH_take (i := 10) (oi := { dst := some 42, op := Op.extract (Operand.tmp 32) 0, type := 30, pos := "law.go:179", after := #[{ on := 9, ground := Ground.data }], guard := none }) (v := ?_) rfl (by kernel_rfl) (by kernel_rfl) (by kernel_rfl) (fun _ _ _ h => h) (Or.inl ⟨by kernel_rfl, ?_⟩) (by assumption) ?_
      rotate_left 1
      · intro w' hSw
        (try dsimp only at hSw)
        obtain ⟨z0, z1, z2, z3, z4, z5, z6⟩ := hSw.1
        clear hSw
        go_simp
        all_goals (with_reducible rfl)
      try (conv => arg 8; simp only [Act.put, List.setIfInBounds_toArray, List.set_cons_zero, List.set_cons_succ])
      refine wpAnyH_take (i := 11) (oi := { dst := some 43, op := Op.extract (Operand.tmp 32) 1, type := 31, pos := "law.go:179", after := #[{ on := 9, ground := Ground.data }, { on := 13, ground := Ground.gcOnly Departure.lateStores }], guard := none }) (v := ?_) rfl (by kernel_rfl) (by kernel_rfl) (by kernel_rfl) (fun _ _ _ h => h) (Or.inl ⟨by kernel_rfl, ?_⟩) (by assumption) ?_
      rotate_left 1
      · intro w' hSw
        (try dsimp only at hSw)
        obtain ⟨z0, z1, z2, z3, z4, z5, z6⟩ := hSw.1
        clear hSw
        go_simp
        all_goals (with_reducible rfl)
      try (conv => arg 8; simp only [Act.put, List.setIfInBounds_toArray, List.set_cons_zero, List.set_cons_succ])
      clear hHeld
      refine wpAnyH_ready (rs := [13]) (by kernel_rfl) (by simp) ?_
      refine AllReadyH.cons (o := { dst := none, op := Op.store 30 (Operand.tmp 11) (Operand.tmp 42), type := 0, pos := "law.go:179", after := #[{ on := 12, ground := Ground.data }, { on := 10, ground := Ground.data }, { on := 8, ground := Ground.chain }, { on := 0, ground := Ground.phase }, { on := 1, ground := Ground.phase }, { on := 2, ground := Ground.phase }, { on := 3, ground := Ground.phase }, { on := 4, ground := Ground.phase }, { on := 5, ground := Ground.phase }, { on := 6, ground := Ground.phase }, { on := 7, ground := Ground.phase }, { on := 8, ground := Ground.phase }, { on := 9, ground := Ground.phase }, { on := 10, ground := Ground.phase }, { on := 11, ground := Ground.textOnly Departure.lateStores }, { on := 12, ground := Ground.phase }], guard := none }) rfl (fun K hK => ?_) AllReadyH.nil
      refine step_storeH _ _ rfl rfl rfl gn R2 rfl rfl hG ?_
      intro w6 e6
      have hk6 : Below W4.heap.size W4 w6 := by rw [e6.out]; exact hset_below hk hgn _
      refine hK.out _ _ (hKP.out _ hk6) (fun hHeld => ?_)
      clear hK K
      try (conv => arg 8; simp only [Act.put, List.setIfInBounds_toArray, List.set_cons_zero, List.set_cons_succ])
      refine wpAnyH_take (i := 14) (oi := { dst := some 12, op := Op.assign (Operand.tmp 43), type := 31, pos := "law.go:179", after := #[{ on := 11, ground := Ground.data }, { on := 13, ground := Ground.chain }, { on := 0, ground := Ground.phase }, { on := 1, ground := Ground.phase }, { on := 2, ground := Ground.phase }, { on := 3, ground := Ground.phase }, { on := 4, ground := Ground.phase }, { on := 5, ground := Ground.phase }, { on := 6, ground := Ground.phase }, { on := 7, ground := Ground.phase }, { on := 8, ground := Ground.phase }, { on := 9, ground := Ground.phase }, { on := 10, ground := Ground.phase }, { on := 11, ground := Ground.phase }, { on := 12, ground := Ground.phase }, { on := 13, ground := Ground.phase }], guard := none }) (v := ?_) rfl (by kernel_rfl) (by kernel_rfl) (by kernel_rfl) (fun _ _ _ h => h) (Or.inl ⟨by kernel_rfl, ?_⟩) (by assumption) ?_
      rotate_left 1
      · intro w' hSw
        (try dsimp only at hSw)
        obtain ⟨z0, z1, z2, z3, z4, z5, z6⟩ := hSw.1
        clear hSw
        go_simp
        all_goals (with_reducible rfl)
      try (conv => arg 8; simp only [Act.put, List.setIfInBounds_toArray, List.set_cons_zero, List.set_cons_succ])
      refine wpAnyH_done (by kernel_rfl) ?_ _
      try simp only [Act.put, List.getElem_toArray, List.getElem_cons_succ, List.getElem_cons_zero, List.setIfInBounds_toArray, List.set_cons_zero, List.set_cons_succ]
      go_wp2_with fail
      go_meet
      case rel => exact ⟨newH_end hG hk hgn e6.out, rfl⟩
    refine AllReadyH.cons (o := { dst := some 37, op := Op.buildSlice 22 1 #[(0, Operand.tmp 36)], type := 22, pos := "law.go:179", after := #[{ on := 3, ground := Ground.data }], guard := none }) rfl (fun K hK => ?_) ?_
    · as_aux_lemma =>
      refine step_bs1 37 _ x rfl rfl rfl rfl ?_
      intro gt y0 hT' et hb
      clear et
      replace hk := kf_step hb hk
      clear hb
      have hT := hT'
      clear hT'
      refine hK.out _ _ (hKP.out _ hk) (fun hHeld => ?_)
      clear hK K
      try (conv => arg 8; simp only [Act.put, List.setIfInBounds_toArray, List.set_cons_zero, List.set_cons_succ])
      clear hHeld
      refine wpAnyH_ready (rs := [0,12]) (by kernel_rfl) (by simp) ?_
      refine AllReadyH.cons (o := { dst := some 33, op := Op.buildSlice 22 0 #[], type := 22, pos := "law.go:179", after := #[], guard := none }) rfl (fun K hK => ?_) ?_
      · as_aux_lemma =>
        refine step_bs0 33 rfl rfl rfl W4.heap.size hk.size ?_
        intro v y1 hO' hv hb
        have hne := ne_new (lt_of_at hT) hv
        clear hv
        replace hT := OneE.below hT hb
        replace hk := kf_step hb hk
        clear hb
        have hO := hO'
        clear hO'
        refine hK.out _ _ (hKP.out _ hk) (fun hHeld => ?_)
        clear hK K
        try (conv => arg 8; simp only [Act.put, List.setIfInBounds_toArray, List.set_cons_zero, List.set_cons_succ])
        clear hHeld
        refine wpAnyH_ready (rs := [2,12]) (by kernel_rfl) (by simp) ?_
        refine AllReadyH.cons (o := { dst := some 35, op := Op.call { callee := Callee.builtin Builtin.append, args := #[Operand.tmp 33, Operand.tmp 34], argTypes := #[22, 22] }, type := 22, pos := "law.go:179", after := #[{ on := 0, ground := Ground.data }, { on := 1, ground := Ground.data }], guard := none }) rfl (fun K hK => ?_) ?_
        · as_aux_lemma =>
          refine step_app 35 _ _ rfl rfl rfl W4.heap.size v 0 [] rfl hO a n c f rfl (HE4.out.below hk) (by omega) hk.size ?_
          intro v2 y2 hO2 hgr hat
          have hne2 := ne_app hne (lt_of_at hT) hat
          replace hT := OneE.grown hT hgr hne
          clear hne
          replace hk := kf_grown hgr hk hO
          clear hgr hat hO
          rw [List.nil_append, Nat.zero_add] at hO2
          refine hK.out _ _ (hKP.out _ hk) (fun hHeld => ?_)
          clear hK K
          try (conv => arg 8; simp only [Act.put, List.setIfInBounds_toArray, List.set_cons_zero, List.set_cons_succ])
          clear hHeld
          refine wpAnyH_ready (rs := [5,12]) (by kernel_rfl) (by simp) ?_
          refine AllReadyH.cons (o := { dst := some 38, op := Op.call { callee := Callee.builtin Builtin.append, args := #[Operand.tmp 35, Operand.tmp 37], argTypes := #[22, 22] }, type := 22, pos := "law.go:179", after := #[{ on := 2, ground := Ground.data }, { on := 4, ground := Ground.data }, { on := 2, ground := Ground.chain }], guard := none }) rfl (fun K hK => ?_) ?_
          · as_aux_lemma =>
            refine step_app 38 _ _ rfl rfl rfl W4.heap.size v2 n (lsE f n) rfl hO2 (some ⟨gt, 0, none⟩) 1 1 (fun _ => x) rfl (OneE.ents hT) (by omega) hk.size ?_
            intro v3 y3 hO3 hgr hat
            replace hk := kf_grown hgr hk hO2
            clear hgr hat hO2 hT hne2
            obtain ⟨q3, cr, rfl⟩ := own_slice hO3
            rw [← HLL.out] at hO3
            refine hK.out _ _ (hKP.out _ hk) (fun hHeld => ?_)
            clear hK K
            try (conv => arg 8; simp only [Act.put, List.setIfInBounds_toArray, List.set_cons_zero, List.set_cons_succ])
            clear hHeld
            refine wpAnyH_ready (rs := [8,12]) (by kernel_rfl) (by simp) ?_
            refine AllReadyH.cons (o := { dst := some 41, op := Op.call { callee := Callee.value (Operand.func 10), args := #[Operand.tmp 38, Operand.tmp 39, Operand.tmp 40], argTypes := #[22, 24, 27] }, type := 32, pos := "law.go:179", after := #[{ on := 5, ground := Ground.data }, { on := 6, ground := Ground.data }, { on := 7, ground := Ground.data }, { on := 5, ground := Ground.chain }], guard := none }) rfl (fun K hK => ?_) ?_
            · as_aux_lemma =>
              refine step_call (by kernel_rfl) (ent_Sum ..) ?_
              refine (HS2.out _ _ _ hO3 q3 cr rfl).mono ?_
              rintro e y4 ⟨rfl, hb⟩
              clear hO3
              have hDone : True := trivial
              replace hk := kf_step hb hk
              clear hb hDone
              refine hK.out _ _ (hKP.out _ hk) (fun hHeld => ?_)
              clear hK K
              try (conv => arg 8; simp only [Act.put, List.setIfInBounds_toArray, List.set_cons_zero, List.set_cons_succ])
              refine wpAnyH_take (i := 9) (oi := { dst := some 32, op := Op.move (Operand.tmp 41), type := 32, pos := "law.go:179", after := #[{ on := 8, ground := Ground.data }], guard := none }) (v := ?_) rfl (by kernel_rfl) (by kernel_rfl) (by kernel_rfl) (fun _ _ _ h => h) (Or.inl ⟨by kernel_rfl, ?_⟩) (by assumption) ?_
              rotate_left 1
              · intro w' hSw
                (try dsimp only at hSw)
                obtain ⟨z0, z1, z2, z3, z4, z5, z6⟩ := hSw.1
                clear hSw
                go_simp
                all_goals (with_reducible rfl)
              try (conv => arg 8; simp only [Act.put, List.setIfInBounds_toArray, List.set_cons_zero, List.set_cons_succ])
              refine wpAnyH_take (i := 10) (oi := { dst := some 42, op := Op.extract (Operand.tmp 32) 0, type := 30, pos := "law.go:179", after := #[{ on := 9, ground := Ground.data }], guard := none }) (v := ?_) rfl (by kernel_rfl) (by kernel_rfl) (by kernel_rfl) (fun _ _ _ h => h) (Or.inl ⟨by kernel_rfl, ?_⟩) (by assumption) ?_
              rotate_left 1
              · intro w' hSw
                (try dsimp only at hSw)
                obtain ⟨z0, z1, z2, z3, z4, z5, z6⟩ := hSw.1
                clear hSw
                go_simp
                all_goals (with_reducible rfl)
              try (conv => arg 8; simp only [Act.put, List.setIfInBounds_toArray, List.set_cons_zero, List.set_cons_succ])
              refine wpAnyH_take (i := 11) (oi := { dst := some 43, op := Op.extract (Operand.tmp 32) 1, type := 31, pos := "law.go:179", after := #[{ on := 9, ground := Ground.data }, { on := 13, ground := Ground.gcOnly Departure.lateStores }], guard := none }) (v := ?_) rfl (by kernel_rfl) (by kernel_rfl) (by kernel_rfl) (fun _ _ _ h => h) (Or.inl ⟨by kernel_rfl, ?_⟩) (by assumption) ?_
              rotate_left 1
              · intro w' hSw
                (try dsimp only at hSw)
                obtain ⟨z0, z1, z2, z3, z4, z5, z6⟩ := hSw.1
                clear hSw
                go_simp
                all_goals (with_reducible rfl)
              try (conv => arg 8; simp only [Act.put, List.setIfInBounds_toArray, List.set_cons_zero, List.set_cons_succ])
              clear hHeld
              refine wpAnyH_ready (rs := [12]) (by kernel_rfl) (by simp) ?_
              refine AllReadyH.cons (o := { dst := some 11, op := Op.alloc 30, type := 0, pos := "law.go:179", after := #[], guard := none }) rfl (fun K hK => ?_) AllReadyH.nil
              refine step_newH 11 rfl rfl rfl ?_
              intro gn y5 hG' eg hb
              have hgn : W4.heap.size ≤ gn := by rw [eg]; exact hk.size
              clear eg
              replace hk := kf_step hb hk
              clear hb
              have hG := hG'
              clear hG'
              refine hK.out _ _ (hKP.out _ hk) (fun hHeld => ?_)
              clear hK K
              try (conv => arg 8; simp only [Act.put, List.setIfInBounds_toArray, List.set_cons_zero, List.set_cons_succ])
              clear hHeld
              refine wpAnyH_ready (rs := [13]) (by kernel_rfl) (by simp) ?_
              refine AllReadyH.cons (o := { dst := none, op := Op.store 30 (Operand.tmp 11) (Operand.tmp 42), type := 0, pos := "law.go:179", after := #[{ on := 12, ground := Ground.data }, { on := 10, ground := Ground.data }, { on := 8, ground := Ground.chain }, { on := 0, ground := Ground.phase }, { on := 1, ground := Ground.phase }, { on := 2, ground := Ground.phase }, { on := 3, ground := Ground.phase }, { on := 4, ground := Ground.phase }, { on := 5, ground := Ground.phase }, { on := 6, ground := Ground.phase }, { on := 7, ground := Ground.phase }, { on := 8, ground := Ground.phase }, { on := 9, ground := Ground.phase }, { on := 10, ground := Ground.phase }, { on := 11, ground := Ground.textOnly Departure.lateStores }, { on := 12, ground := Ground.phase }], guard := none }) rfl (fun K hK => ?_) AllReadyH.nil
              refine step_storeH _ _ rfl rfl rfl gn R2 rfl rfl hG ?_
              intro w6 e6
              have hk6 : Below W4.heap.size W4 w6 := by rw [e6.out]; exact hset_below hk hgn _
              refine hK.out _ _ (hKP.out _ hk6) (fun hHeld => ?_)
              clear hK K
              try (conv => arg 8; simp only [Act.put, List.setIfInBounds_toArray, List.set_cons_zero, List.set_cons_succ])
              refine wpAnyH_take (i := 14) (oi := { dst := some 12, op := Op.assign (Operand.tmp 43), type := 31, pos := "law.go:179", after := #[{ on := 11, ground := Ground.data }, { on := 13, ground := Ground.chain }, { on := 0, ground := Ground.phase }, { on := 1, ground := Ground.phase }, { on := 2, ground := Ground.phase }, { on := 3, ground := Ground.phase }, { on := 4, ground := Ground.phase }, { on := 5, ground := Ground.phase }, { on := 6, ground := Ground.phase }, { on := 7, ground := Ground.phase }, { on := 8, ground := Ground.phase }, { on := 9, ground := Ground.phase }, { on := 10, ground := Ground.phase }, { on := 11, ground := Ground.phase }, { on := 12, ground := Ground.phase }, { on := 13, ground := Ground.phase }], guard := none }) (v := ?_) rfl (by kernel_rfl) (by kernel_rfl) (by kernel_rfl) (fun _ _ _ h => h) (Or.inl ⟨by kernel_rfl, ?_⟩) (by assumption) ?_
              rotate_left 1
              · intro w' hSw
                (try dsimp only at hSw)
                obtain ⟨z0, z1, z2, z3, z4, z5, z6⟩ := hSw.1
                clear hSw
                go_simp
                all_goals (with_reducible rfl)
              try (conv => arg 8; simp only [Act.put, List.setIfInBounds_toArray, List.set_cons_zero, List.set_cons_succ])
              refine wpAnyH_done (by kernel_rfl) ?_ _
              try simp only [Act.put, List.getElem_toArray, List.getElem_cons_succ, List.getElem_cons_zero, List.setIfInBounds_toArray, List.set_cons_zero, List.set_cons_succ]
              go_wp2_with fail
              go_meet
              case rel => exact ⟨newH_end hG hk hgn e6.out, rfl⟩
            refine AllReadyH.cons (o := { dst := some 11, op := Op.alloc 30, type := 0, pos := "law.go:179", after := #[], guard := none }) rfl (fun K hK => ?_) AllReadyH.nil
            refine step_newH 11 rfl rfl rfl ?_
            intro gn y4 hG' eg hb
            have hgn : W4.heap.size ≤ gn := by rw [eg]; exact hk.size
            clear eg
            replace hO3 := own_below hO3 hb
            replace hk := kf_step hb hk
            clear hb
            have hG := hG'
            clear hG'
            refine hK.out _ _ (hKP.out _ hk) (fun hHeld => ?_)
            clear hK K
            try (conv => arg 8; simp only [Act.put, List.setIfInBounds_toArray, List.set_cons_zero, List.set_cons_succ])
            clear hHeld
            refine wpAnyH_ready (rs := [8]) (by kernel_rfl) (by simp) ?_
            refine AllReadyH.cons (o := { dst := some 41, op := Op.call { callee := Callee.value (Operand.func 10), args := #[Operand.tmp 38, Operand.tmp 39, Operand.tmp 40], argTypes := #[22, 24, 27] }, type := 32, pos := "law.go:179", after := #[{ on := 5, ground := Ground.data }, { on := 6, ground := Ground.data }, { on := 7, ground := Ground.data }, { on := 5, ground := Ground.chain }], guard := none }) rfl (fun K hK => ?_) AllReadyH.nil
            refine step_call (by kernel_rfl) (ent_Sum ..) ?_
            refine (HS2.out _ _ _ hO3 q3 cr rfl).mono ?_
            rintro e y5 ⟨rfl, hb⟩
            clear hO3
            have hDone : True := trivial
            replace hG := Fr3.below hG hb
            replace hk := kf_step hb hk
            clear hb hDone
            refine hK.out _ _ (hKP.out _ hk) (fun hHeld => ?_)
            clear hK K
            try (conv => arg 8; simp only [Act.put, List.setIfInBounds_toArray, List.set_cons_zero, List.set_cons_succ])
            refine wpAnyH_take (i := 9) (oi := { dst := some 32, op := Op.move (Operand.tmp 41), type := 32, pos := "law.go:179", after := #[{ on := 8, ground := Ground.data }], guard := none }) (v := ?_) rfl (by kernel_rfl) (by kernel_rfl) (by kernel_rfl) (fun _ _ _ h => h) (Or.inl ⟨by kernel_rfl, ?_⟩) (by assumption) ?_
            rotate_left 1
            · intro w' hSw
              (try dsimp only at hSw)
              obtain ⟨z0, z1, z2, z3, z4, z5, z6⟩ := hSw.1
              clear hSw
              go_simp
              all_goals (with_reducible rfl)
            try (conv => arg 8; simp only [Act.put, List.setIfInBounds_toArray, List.set_cons_zero, List.set_cons_succ])
            refine wpAnyH_take (i := 10) (oi := { dst := some 42, op := Op.extract (Operand.tmp 32) 0, type := 30, pos := "law.go:179", after := #[{ on := 9, ground := Ground.data }], guard := none }) (v := ?_) rfl (by kernel_rfl) (by kernel_rfl) (by kernel_rfl) (fun _ _ _ h => h) (Or.inl ⟨by kernel_rfl, ?_⟩) (by assumption) ?_
            rotate_left 1
            · intro w' hSw
              (try dsimp only at hSw)
              obtain ⟨z0, z1, z2, z3, z4, z5, z6⟩ := hSw.1
              clear hSw
              go_simp
              all_goals (with_reducible rfl)
            try (conv => arg 8; simp only [Act.put, List.setIfInBounds_toArray, List.set_cons_zero, List.set_cons_succ])
            refine wpAnyH_take (i := 11) (oi := { dst := some 43, op := Op.extract (Operand.tmp 32) 1, type := 31, pos := "law.go:179", after := #[{ on := 9, ground := Ground.data }, { on := 13, ground := Ground.gcOnly Departure.lateStores }], guard := none }) (v := ?_) rfl (by kernel_rfl) (by kernel_rfl) (by kernel_rfl) (fun _ _ _ h => h) (Or.inl ⟨by kernel_rfl, ?_⟩) (by assumption) ?_
            rotate_left 1
            · intro w' hSw
              (try dsimp only at hSw)
              obtain ⟨z0, z1, z2, z3, z4, z5, z6⟩ := hSw.1
              clear hSw
              go_simp
              all_goals (with_reducible rfl)
            try (conv => arg 8; simp only [Act.put, List.setIfInBounds_toArray, List.set_cons_zero, List.set_cons_succ])
            clear hHeld
            refine wpAnyH_ready (rs := [13]) (by kernel_rfl) (by simp) ?_
            refine AllReadyH.cons (o := { dst := none, op := Op.store 30 (Operand.tmp 11) (Operand.tmp 42), type := 0, pos := "law.go:179", after := #[{ on := 12, ground := Ground.data }, { on := 10, ground := Ground.data }, { on := 8, ground := Ground.chain }, { on := 0, ground := Ground.phase }, { on := 1, ground := Ground.phase }, { on := 2, ground := Ground.phase }, { on := 3, ground := Ground.phase }, { on := 4, ground := Ground.phase }, { on := 5, ground := Ground.phase }, { on := 6, ground := Ground.phase }, { on := 7, ground := Ground.phase }, { on := 8, ground := Ground.phase }, { on := 9, ground := Ground.phase }, { on := 10, ground := Ground.phase }, { on := 11, ground := Ground.textOnly Departure.lateStores }, { on := 12, ground := Ground.phase }], guard := none }) rfl (fun K hK => ?_) AllReadyH.nil
            refine step_storeH _ _ rfl rfl rfl gn R2 rfl rfl hG ?_
            intro w6 e6
            have hk6 : Below W4.heap.size W4 w6 := by rw [e6.out]; exact hset_below hk hgn _
            refine hK.out _ _ (hKP.out _ hk6) (fun hHeld => ?_)
            clear hK K
            try (conv => arg 8; simp only [Act.put, List.setIfInBounds_toArray, List.set_cons_zero, List.set_cons_succ])
            refine wpAnyH_take (i := 14) (oi := { dst := some 12, op := Op.assign (Operand.tmp 43), type := 31, pos := "law.go:179", after := #[{ on := 11, ground := Ground.data }, { on := 13, ground := Ground.chain }, { on := 0, ground := Ground.phase }, { on := 1, ground := Ground.phase }, { on := 2, ground := Ground.phase }, { on := 3, ground := Ground.phase }, { on := 4, ground := Ground.phase }, { on := 5, ground := Ground.phase }, { on := 6, ground := Ground.phase }, { on := 7, ground := Ground.phase }, { on := 8, ground := Ground.phase }, { on := 9, ground := Ground.phase }, { on := 10, ground := Ground.phase }, { on := 11, ground := Ground.phase }, { on := 12, ground := Ground.phase }, { on := 13, ground := Ground.phase }], guard := none }) (v := ?_) rfl (by kernel_rfl) (by kernel_rfl) (by kernel_rfl) (fun _ _ _ h => h) (Or.inl ⟨by kernel_rfl, ?_⟩) (by assumption) ?_
            rotate_left 1
            · intro w' hSw
              (try dsimp only at hSw)
              obtain ⟨z0, z1, z2, z3, z4, z5, z6⟩ := hSw.1
              clear hSw
              go_simp
              all_goals (with_reducible rfl)
            try (conv => arg 8; simp only [Act.put, List.setIfInBounds_toArray, List.set_cons_zero, List.set_cons_succ])
            refine wpAnyH_done (by kernel_rfl) ?_ _
            try simp only [Act.put, List.getElem_toArray, List.getElem_cons_succ, List.getElem_cons_zero, List.setIfInBounds_toArray, List.set_cons_zero, List.set_cons_succ]
            go_wp2_with fail
            go_meet
            case rel => exact ⟨newH_end hG hk hgn e6.out, rfl⟩
          refine AllReadyH.cons (o := { dst := some 11, op := Op.alloc 30, type := 0, pos := "law.go:179", after := #[], guard := none }) rfl (fun K hK => ?_) AllReadyH.nil
          refine step_newH 11 rfl rfl rfl ?_
          intro gn y3 hG' eg hb
          have hgn : W4.heap.size ≤ gn := by rw [eg]; exact hk.size
          clear eg
          replace hO2 := own_below hO2 hb
          replace hT := OneE.below hT hb
          replace hk := kf_step hb hk
          clear hb
          have hG := hG'
          clear hG'
          refine hK.out _ _ (hKP.out _ hk) (fun hHeld => ?_)
          clear hK K
          try (conv => arg 8; simp only [Act.put, List.setIfInBounds_toArray, List.set_cons_zero, List.set_cons_succ])
          clear hHeld
          refine wpAnyH_ready (rs := [5]) (by kernel_rfl) (by simp) ?_
          refine AllReadyH.cons (o := { dst := some 38, op := Op.call { callee := Callee.builtin Builtin.append, args := #[Operand.tmp 35, Operand.tmp 37], argTypes := #[22, 22] }, type := 22, pos := "law.go:179", after := #[{ on := 2, ground := Ground.data }, { on := 4, ground := Ground.data }, { on := 2, ground := Ground.chain }], guard := none }) rfl (fun K hK => ?_) AllReadyH.nil
          refine step_app 38 _ _ rfl rfl rfl W4.heap.size v2 n (lsE f n) rfl hO2 (some ⟨gt, 0, none⟩) 1 1 (fun _ => x) rfl (OneE.ents hT) (by omega) hk.size ?_
          intro v3 y4 hO3 hgr hat
          replace hG := Fr3.grown hG hgr (Fr3.far hG hO2)
          replace hk := kf_grown hgr hk hO2
          clear hgr hat hO2 hT hne2
          obtain ⟨q3, cr, rfl⟩ := own_slice hO3
          rw [← HLL.out] at hO3
          refine hK.out _ _ (hKP.out _ hk) (fun hHeld => ?_)
          clear hK K
          try (conv => arg 8; simp only [Act.put, List.setIfInBounds_toArray, List.set_cons_zero, List.set_cons_succ])
          clear hHeld
          refine wpAnyH_ready (rs := [8]) (by kernel_rfl) (by simp) ?_
          refine AllReadyH.cons (o := { dst := some 41, op := Op.call { callee := Callee.value (Operand.func 10), args := #[Operand.tmp 38, Operand.tmp 39, Operand.tmp 40], argTypes := #[22, 24, 27] }, type := 32, pos := "law.go:179", after := #[{ on := 5, ground := Ground.data }, { on := 6, ground := Ground.data }, { on := 7, ground := Ground.data }, { on := 5, ground := Ground.chain }], guard := none }) rfl (fun K hK => ?_) AllReadyH.nil
          refine step_call (by kernel_rfl) (ent_Sum ..) ?_
          refine (HS2.out _ _ _ hO3 q3 cr rfl).mono ?_
          rintro e y5 ⟨rfl, hb⟩
          clear hO3
          have hDone : True := trivial
          replace hG := Fr3.below hG hb
          replace hk := kf_step hb hk
          clear hb hDone
          refine hK.out _ _ (hKP.out _ hk) (fun hHeld => ?_)
          clear hK K
          try (conv => arg 8; simp only [Act.put, List.setIfInBounds_toArray, List.set_cons_zero, List.set_cons_succ])
          refine wpAnyH_take (i := 9) (oi := { dst := some 32, op := Op.move (Operand.tmp 41), type := 32, pos := "law.go:179", after := #[{ on := 8, ground := Ground.data }], guard := none }) (v := ?_) rfl (by kernel_rfl) (by kernel_rfl) (by kernel_rfl) (fun _ _ _ h => h) (Or.inl ⟨by kernel_rfl, ?_⟩) (by assumption) ?_
          rotate_left 1
          · intro w' hSw
            (try dsimp only at hSw)
            obtain ⟨z0, z1, z2, z3, z4, z5, z6⟩ := hSw.1
            clear hSw
            go_simp
            all_goals (with_reducible rfl)
          try (conv => arg 8; simp only [Act.put, List.setIfInBounds_toArray, List.set_cons_zero, List.set_cons_succ])
          refine wpAnyH_take (i := 10) (oi := { dst := some 42, op := Op.extract (Operand.tmp 32) 0, type := 30, pos := "law.go:179", after := #[{ on := 9, ground := Ground.data }], guard := none }) (v := ?_) rfl (by kernel_rfl) (by kernel_rfl) (by kernel_rfl) (fun _ _ _ h => h) (Or.inl ⟨by kernel_rfl, ?_⟩) (by assumption) ?_
          rotate_left 1
          · intro w' hSw
            (try dsimp only at hSw)
            obtain ⟨z0, z1, z2, z3, z4, z5, z6⟩ := hSw.1
            clear hSw
            go_simp
            all_goals (with_reducible rfl)
          try (conv => arg 8; simp only [Act.put, List.setIfInBounds_toArray, List.set_cons_zero, List.set_cons_succ])
          refine wpAnyH_take (i := 11) (oi := { dst := some 43, op := Op.extract (Operand.tmp 32) 1, type := 31, pos := "law.go:179", after := #[{ on := 9, ground := Ground.data }, { on := 13, ground := Ground.gcOnly Departure.lateStores }], guard := none }) (v := ?_) rfl (by kernel_rfl) (by kernel_rfl) (by kernel_rfl) (fun _ _ _ h => h) (Or.inl ⟨by kernel_rfl, ?_⟩) (by assumption) ?_
          rotate_left 1
          · intro w' hSw
            (try dsimp only at hSw)
            obtain ⟨z0, z1, z2, z3, z4, z5, z6⟩ := hSw.1
            clear hSw
            go_simp
            all_goals (with_reducible rfl)
          try (conv => arg 8; simp only [Act.put, List.setIfInBounds_toArray, List.set_cons_zero, List.set_cons_succ])
          clear hHeld
          refine wpAnyH_ready (rs := [13]) (by kernel_rfl) (by simp) ?_
          refine AllReadyH.cons (o := { dst := none, op := Op.store 30 (Operand.tmp 11) (Operand.tmp 42), type := 0, pos := "law.go:179", after := #[{ on := 12, ground := Ground.data }, { on := 10, ground := Ground.data }, { on := 8, ground := Ground.chain }, { on := 0, ground := Ground.phase }, { on := 1, ground := Ground.phase }, { on := 2, ground := Ground.phase }, { on := 3, ground := Ground.phase }, { on := 4, ground := Ground.phase }, { on := 5, ground := Ground.phase }, { on := 6, ground := Ground.phase }, { on := 7, ground := Ground.phase }, { on := 8, ground := Ground.phase }, { on := 9, ground := Ground.phase }, { on := 10, ground := Ground.phase }, { on := 11, ground := Ground.textOnly Departure.lateStores }, { on := 12, ground := Ground.phase }], guard := none }) rfl (fun K hK => ?_) AllReadyH.nil
          refine step_storeH _ _ rfl rfl rfl gn R2 rfl rfl hG ?_
          intro w6 e6
          have hk6 : Below W4.heap.size W4 w6 := by rw [e6.out]; exact hset_below hk hgn _
          refine hK.out _ _ (hKP.out _ hk6) (fun hHeld => ?_)
          clear hK K
          try (conv => arg 8; simp only [Act.put, List.setIfInBounds_toArray, List.set_cons_zero, List.set_cons_succ])
          refine wpAnyH_take (i := 14) (oi := { dst := some 12, op := Op.assign (Operand.tmp 43), type := 31, pos := "law.go:179", after := #[{ on := 11, ground := Ground.data }, { on := 13, ground := Ground.chain }, { on := 0, ground := Ground.phase }, { on := 1, ground := Ground.phase }, { on := 2, ground := Ground.phase }, { on := 3, ground := Ground.phase }, { on := 4, ground := Ground.phase }, { on := 5, ground := Ground.phase }, { on := 6, ground := Ground.phase }, { on := 7, ground := Ground.phase }, { on := 8, ground := Ground.phase }, { on := 9, ground := Ground.phase }, { on := 10, ground := Ground.phase }, { on := 11, ground := Ground.phase }, { on := 12, ground := Ground.phase }, { on := 13, ground := Ground.phase }], guard := none }) (v := ?_) rfl (by kernel_rfl) (by kernel_rfl) (by kernel_rfl) (fun _ _ _ h => h) (Or.inl ⟨by kernel_rfl, ?_⟩) (by assumption) ?_
          rotate_left 1
          · intro w' hSw
            (try dsimp only at hSw)
            obtain ⟨z0, z1, z2, z3, z4, z5, z6⟩ := hSw.1
            clear hSw
            go_simp
            all_goals (with_reducible rfl)
          try (conv => arg 8; simp only [Act.put, List.setIfInBounds_toArray, List.set_cons_zero, List.set_cons_succ])
          refine wpAnyH_done (by kernel_rfl) ?_ _
          try simp only [Act.put, List.getElem_toArray, List.getElem_cons_succ, List.getElem_cons_zero, List.setIfInBounds_toArray, List.set_cons_zero, List.set_cons_succ]
          go_wp2_with fail
          go_meet
          case rel => exact ⟨newH_end hG hk hgn e6.out, rfl⟩
        refine AllReadyH.cons (o := { dst := some 11, op := Op.alloc 30, type := 0, pos := "law.go:179", after := #[], guard := none }) rfl (fun K hK => ?_) AllReadyH.nil
        refine step_newH 11 rfl rfl rfl ?_
        intro gn y2 hG' eg hb
        have hgn : W4.heap.size ≤ gn := by rw [eg]; exact hk.size
        clear eg
        replace hO := own_below hO hb
        replace hT := OneE.below hT hb
        replace hk := kf_step hb hk
        clear hb
        have hG := hG'
        clear hG'
        refine hK.out _ _ (hKP.out _ hk) (fun hHeld => ?_)
        clear hK K
        try (conv => arg 8; simp only [Act.put, List.setIfInBounds_toArray, List.set_cons_zero, List.set_cons_succ])
        clear hHeld
        refine wpAnyH_ready (rs := [2]) (by kernel_rfl) (by simp) ?_
        refine AllReadyH.cons (o := { dst := some 35, op := Op.call { callee := Callee.builtin Builtin.append, args := #[Operand.tmp 33, Operand.tmp 34], argTypes := #[22, 22] }, type := 22, pos := "law.go:179", after := #[{ on := 0, ground := Ground.data }, { on := 1, ground := Ground.data }], guard := none }) rfl (fun K hK => ?_) AllReadyH.nil
        refine step_app 35 _ _ rfl rfl rfl W4.heap.size v 0 [] rfl hO a n c f rfl (HE4.out.below hk) (by omega) hk.size ?_
        intro v2 y3 hO2 hgr hat
        replace hG := Fr3.grown hG hgr (Fr3.far hG hO)
        have hne2 := ne_app hne (lt_of_at hT) hat
        replace hT := OneE.grown hT hgr hne
        clear hne
        replace hk := kf_grown hgr hk hO
        clear hgr hat hO
        rw [List.nil_append, Nat.zero_add] at hO2
        refine hK.out _ _ (hKP.out _ hk) (fun hHeld => ?_)
        clear hK K
        try (conv => arg 8; simp only [Act.put, List.setIfInBounds_toArray, List.set_cons_zero, List.set_cons_succ])
        clear hHeld
        refine wpAnyH_ready (rs := [5]) (by kernel_rfl) (by simp) ?_
        refine AllReadyH.cons (o := { dst := some 38, op := Op.call { callee := Callee.builtin Builtin.append, args := #[Operand.tmp 35, Operand.tmp 37], argTypes := #[22, 22] }, type := 22, pos := "law.go:179", after := #[{ on := 2, ground := Ground.data }, { on := 4, ground := Ground.data }, { on := 2, ground := Ground.chain }], guard := none }) rfl (fun K hK => ?_) AllReadyH.nil
        refine step_app 38 _ _ rfl rfl rfl W4.heap.size v2 n (lsE f n) rfl hO2 (some ⟨gt, 0, none⟩) 1 1 (fun _ => x) rfl (OneE.ents hT) (by omega) hk.size ?_
        intro v3 y4 hO3 hgr hat
        replace hG := Fr3.grown hG hgr (Fr3.far hG hO2)
        replace hk := kf_grown hgr hk hO2
        clear hgr hat hO2 hT hne2
        obtain ⟨q3, cr, rfl⟩ := own_slice hO3
        rw [← HLL.out] at hO3
        refine hK.out _ _ (hKP.out _ hk) (fun hHeld => ?_)
        clear hK K
        try (conv => arg 8; simp only [Act.put, List.setIfInBounds_toArray, List.set_cons_zero, List.set_cons_succ])
        clear hHeld
        refine wpAnyH_ready (rs := [8]) (by kernel_rfl) (by simp) ?_
        refine AllReadyH.cons (o := { dst := some 41, op := Op.call { callee := Callee.value (Operand.func 10), args := #[Operand.tmp 38, Operand.tmp 39, Operand.tmp 40], argTypes := #[22, 24, 27] }, type := 32, pos := "law.go:179", after := #[{ on := 5, ground := Ground.data }, { on := 6, ground := Ground.data }, { on := 7, ground := Ground.data }, { on := 5, ground := Ground.chain }], guard := none }) rfl (fun K hK => ?_) AllReadyH.nil
        refine step_call (by kernel_rfl) (ent_Sum ..) ?_
        refine (HS2.out _ _ _ hO3 q3 cr rfl).mono ?_
        rintro e y5 ⟨rfl, hb⟩
        clear hO3
        have hDone : True := trivial
        replace hG := Fr3.below hG hb
        replace hk := kf_step hb hk
        clear hb hDone
        refine hK.out _ _ (hKP.out _ hk) (fun hHeld => ?_)
        clear hK K
        try (conv => arg 8; simp only [Act.put, List.setIfInBounds_toArray, List.set_cons_zero, List.set_cons_succ])
        refine wpAnyH_take (i := 9) (oi := { dst := some 32, op := Op.move (Operand.tmp 41), type := 32, pos := "law.go:179", after := #[{ on := 8, ground := Ground.data }], guard := none }) (v := ?_) rfl (by kernel_rfl) (by kernel_rfl) (by kernel_rfl) (fun _ _ _ h => h) (Or.inl ⟨by kernel_rfl, ?_⟩) (by assumption) ?_
        rotate_left 1
        · intro w' hSw
          (try dsimp only at hSw)
          obtain ⟨z0, z1, z2, z3, z4, z5, z6⟩ := hSw.1
          clear hSw
          go_simp
          all_goals (with_reducible rfl)
        try (conv => arg 8; simp only [Act.put, List.setIfInBounds_toArray, List.set_cons_zero, List.set_cons_succ])
        refine wpAnyH_take (i := 10) (oi := { dst := some 42, op := Op.extract (Operand.tmp 32) 0, type := 30, pos := "law.go:179", after := #[{ on := 9, ground := Ground.data }], guard := none }) (v := ?_) rfl (by kernel_rfl) (by kernel_rfl) (by kernel_rfl) (fun _ _ _ h => h) (Or.inl ⟨by kernel_rfl, ?_⟩) (by assumption) ?_
        rotate_left 1
        · intro w' hSw
          (try dsimp only at hSw)
          obtain ⟨z0, z1, z2, z3, z4, z5, z6⟩ := hSw.1
          clear hSw
          go_simp
          all_goals (with_reducible rfl)
        try (conv => arg 8; simp only [Act.put, List.setIfInBounds_toArray, List.set_cons_zero, List.set_cons_succ])
        refine wpAnyH_take (i := 11) (oi := { dst := some 43, op := Op.extract (Operand.tmp 32) 1, type := 31, pos := "law.go:179", after := #[{ on := 9, ground := Ground.data }, { on := 13, ground := Ground.gcOnly Departure.lateStores }], guard := none }) (v := ?_) rfl (by kernel_rfl) (by kernel_rfl) (by kernel_rfl) (fun _ _ _ h => h) (Or.inl ⟨by kernel_rfl, ?_⟩) (by assumption) ?_
        rotate_left 1
        · intro w' hSw
          (try dsimp only at hSw)
          obtain ⟨z0, z1, z2, z3, z4, z5, z6⟩ := hSw.1
          clear hSw
          go_simp
          all_goals (with_reducible rfl)
        try (conv => arg 8; simp only [Act.put, List.setIfInBounds_toArray, List.set_cons_zero, List.set_cons_succ])
        clear hHeld
        refine wpAnyH_ready (rs := [13]) (by kernel_rfl) (by simp) ?_
        refine AllReadyH.cons (o := { dst := none, op := Op.store 30 (Operand.tmp 11) (Operand.tmp 42), type := 0, pos := "law.go:179", after := #[{ on := 12, ground := Ground.data }, { on := 10, ground := Ground.data }, { on := 8, ground := Ground.chain }, { on := 0, ground := Ground.phase }, { on := 1, ground := Ground.phase }, { on := 2, ground := Ground.phase }, { on := 3, ground := Ground.phase }, { on := 4, ground := Ground.phase }, { on := 5, ground := Ground.phase }, { on := 6, ground := Ground.phase }, { on := 7, ground := Ground.phase }, { on := 8, ground := Ground.phase }, { on := 9, ground := Ground.phase }, { on := 10, ground := Ground.phase }, { on := 11, ground := Ground.textOnly Departure.lateStores }, { on := 12, ground := Ground.phase }], guard := none }) rfl (fun K hK => ?_) AllReadyH.nil
        refine step_storeH _ _ rfl rfl rfl gn R2 rfl rfl hG ?_
        intro w6 e6
        have hk6 : Below W4.heap.size W4 w6 := by rw [e6.out]; exact hset_below hk hgn _
        refine hK.out _ _ (hKP.out _ hk6) (fun hHeld => ?_)
        clear hK K
        try (conv => arg 8; simp only [Act.put, List.setIfInBounds_toArray, List.set_cons_zero, List.set_cons_succ])
        refine wpAnyH_take (i := 14) (oi := { dst := some 12, op := Op.assign (Operand.tmp 43), type := 31, pos := "law.go:179", after := #[{ on := 11, ground := Ground.data }, { on := 13, ground := Ground.chain }, { on := 0, ground := Ground.phase }, { on := 1, ground := Ground.phase }, { on := 2, ground := Ground.phase }, { on := 3, ground := Ground.phase }, { on := 4, ground := Ground.phase }, { on := 5, ground := Ground.phase }, { on := 6, ground := Ground.phase }, { on := 7, ground := Ground.phase }, { on := 8, ground := Ground.phase }, { on := 9, ground := Ground.phase }, { on := 10, ground := Ground.phase }, { on := 11, ground := Ground.phase }, { on := 12, ground := Ground.phase }, { on := 13, ground := Ground.phase }], guard := none }) (v := ?_) rfl (by kernel_rfl) (by kernel_rfl) (by kernel_rfl) (fun _ _ _ h => h) (Or.inl ⟨by kernel_rfl, ?_⟩) (by assumption) ?_
        rotate_left 1
        · intro w' hSw
          (try dsimp only at hSw)
          obtain ⟨z0, z1, z2, z3, z4, z5, z6⟩ := hSw.1
          clear hSw
          go_simp
          all_goals (with_reducible rfl)
        try (conv => arg 8; simp only [Act.put, List.setIfInBounds_toArray, List.set_cons_zero, List.set_cons_succ])
        refine wpAnyH_done (by kernel_rfl) ?_ _
        try simp only [Act.put, List.getElem_toArray, List.getElem_cons_succ, List.getElem_cons_zero, List.setIfInBounds_toArray, List.set_cons_zero, List.set_cons_succ]
        go_wp2_with fail
        go_meet
        case rel => exact ⟨newH_end hG hk hgn e6.out, rfl⟩
      refine AllReadyH.cons (o := { dst := some 11, op := Op.alloc 30, type := 0, pos := "law.go:179", after := #[], guard := none }) rfl (fun K hK => ?_) AllReadyH.nil
      refine step_newH 11 rfl rfl rfl ?_
      intro gn y1 hG' eg hb
      have hgn : W4.heap.size ≤ gn := by rw [eg]; exact hk.size
      clear eg
      replace hT := OneE.below hT hb
      replace hk := kf_step hb hk
      clear hb
      have hG := hG'
      clear hG'
      refine hK.out _ _ (hKP.out _ hk) (fun hHeld => ?_)
      clear hK K
      try (conv => arg 8; simp only [Act.put, List.setIfInBounds_toArray, List.set_cons_zero, List.set_cons_succ])
      clear hHeld
      refine wpAnyH_ready (rs := [0]) (by kernel_rfl) (by simp) ?_
      refine AllReadyH.cons (o := { dst := some 33, op := Op.buildSlice 22 0 #[], type := 22, pos := "law.go:179", after := #[], guard := none }) rfl (fun K hK => ?_) AllReadyH.nil
      refine step_bs0 33 rfl rfl rfl W4.heap.size hk.size ?_
      intro v y2 hO' hv hb
      have hne := ne_new (lt_of_at hT) hv
      clear hv
      replace hT := OneE.below hT hb
      replace hG := Fr3.below hG hb
      replace hk := kf_step hb hk
      clear hb
      have hO := hO'
      clear hO'
      refine hK.out _ _ (hKP.out _ hk) (fun hHeld => ?_)
      clear hK K
      try (conv => arg 8; simp only [Act.put, List.setIfInBounds_toArray, List.set_cons_zero, List.set_cons_succ])
      clear hHeld
      refine wpAnyH_ready (rs := [2]) (by kernel_rfl) (by simp) ?_
      refine AllReadyH.cons (o := { dst := some 35, op := Op.call { callee := Callee.builtin Builtin.append, args := #[Operand.tmp 33, Operand.tmp 34], argTypes := #[22, 22] }, type := 22, pos := "law.go:179", after := #[{ on := 0, ground := Ground.data }, { on := 1, ground := Ground.data }], guard := none }) rfl (fun K hK => ?_) AllReadyH.nil
      refine step_app 35 _ _ rfl rfl rfl W4.heap.size v 0 [] rfl hO a n c f rfl (HE4.out.below hk) (by omega) hk.size ?_
      intro v2 y3 hO2 hgr hat
      replace hG := Fr3.grown hG hgr (Fr3.far hG hO)
      have hne2 := ne_app hne (lt_of_at hT) hat
      replace hT := OneE.grown hT hgr hne
      clear hne
      replace hk := kf_grown hgr hk hO
      clear hgr hat hO
      rw [List.nil_append, Nat.zero_add] at hO2
      refine hK.out _ _ (hKP.out _ hk) (fun hHeld => ?_)
      clear hK K
      try (conv => arg 8; simp only [Act.put, List.setIfInBounds_toArray, List.set_cons_zero, List.set_cons_succ])
      clear hHeld
      refine wpAnyH_ready (rs := [5]) (by kernel_rfl) (by simp) ?_
      refine AllReadyH.cons (o := { dst := some 38, op := Op.call { callee := Callee.builtin Builtin.append, args := #[Operand.tmp 35, Operand.tmp 37], argTypes := #[22, 22] }, type := 22, pos := "law.go:179", after := #[{ on := 2, ground := Ground.data }, { on := 4, ground := Ground.data }, { on := 2, ground := Ground.chain }], guard := none }) rfl (fun K hK => ?_) AllReadyH.nil
      refine step_app 38 _ _ rfl rfl rfl W4.heap.size v2 n (lsE f n) rfl hO2 (some ⟨gt, 0, none⟩) 1 1 (fun _ => x) rfl (OneE.ents hT) (by omega) hk.size ?_
      intro v3 y4 hO3 hgr hat
      replace hG := Fr3.grown hG hgr (Fr3.far hG hO2)
      replace hk := kf_grown hgr hk hO2
      clear hgr hat hO2 hT hne2
      obtain ⟨q3, cr, rfl⟩ := own_slice hO3
      rw [← HLL.out] at hO3
      refine hK.out _ _ (hKP.out _ hk) (fun hHeld => ?_)
      clear hK K
      try (conv => arg 8; simp only [Act.put, List.setIfInBounds_toArray, List.set_cons_zero, List.set_cons_succ])
      clear hHeld
      refine wpAnyH_ready (rs := [8]) (by kernel_rfl) (by simp) ?_
      refine AllReadyH.cons (o := { dst := some 41, op := Op.call { callee := Callee.value (Operand.func 10), args := #[Operand.tmp 38, Operand.tmp 39, Operand.tmp 40], argTypes := #[22, 24, 27] }, type := 32, pos := "law.go:179", after := #[{ on := 5, ground := Ground.data }, { on := 6, ground := Ground.data }, { on := 7, ground := Ground.data }, { on := 5, ground := Ground.chain }], guard := none }) rfl (fun K hK => ?_) AllReadyH.nil
      refine step_call (by kernel_rfl) (ent_Sum ..) ?_
      refine (HS2.out _ _ _ hO3 q3 cr rfl).mono ?_
      rintro e y5 ⟨rfl, hb⟩
      clear hO3
      have hDone : True := trivial
      replace hG := Fr3.below hG hb
      replace hk := kf_step hb hk
      clear hb hDone
      refine hK.out _ _ (hKP.out _ hk) (fun hHeld => ?_)
      clear hK K
      try (conv => arg 8; simp only [Act.put, List.setIfInBounds_toArray, List.set_cons_zero, List.set_cons_succ])
      refine wpAnyH_take (i := 9) (oi := { dst := some 32, op := Op.move (Operand.tmp 41), type := 32, pos := "law.go:179", after := #[{ on := 8, ground := Ground.data }], guard := none }) (v := ?_) rfl (by kernel_rfl) (by kernel_rfl) (by kernel_rfl) (fun _ _ _ h => h) (Or.inl ⟨by kernel_rfl, ?_⟩) (by assumption) ?_
      rotate_left 1
      · intro w' hSw
        (try dsimp only at hSw)
        obtain ⟨z0, z1, z2, z3, z4, z5, z6⟩ := hSw.1
        clear hSw
        go_simp
        all_goals (with_reducible rfl)
      try (conv => arg 8; simp only [Act.put, List.setIfInBounds_toArray, List.set_cons_zero, List.set_cons_succ])
      refine wpAnyH_take (i := 10) (oi := { dst := some 42, op := Op.extract (Operand.tmp 32) 0, type := 30, pos := "law.go:179", after := #[{ on := 9, ground := Ground.data }], guard := none }) (v := ?_) rfl (by kernel_rfl) (by kernel_rfl) (by kernel_rfl) (fun _ _ _ h => h) (Or.inl ⟨by kernel_rfl, ?_⟩) (by assumption) ?_
      rotate_left 1
      · intro w' hSw
        (try dsimp only at hSw)
        obtain ⟨z0, z1, z2, z3, z4, z5, z6⟩ := hSw.1
        clear hSw
        go_simp
        all_goals (with_reducible rfl)
      try (conv => arg 8; simp only [Act.put, List.setIfInBounds_toArray, List.set_cons_zero, List.set_cons_succ])
      refine wpAnyH_take (i := 11) (oi := { dst := some 43, op := Op.extract (Operand.tmp 32) 1, type := 31, pos := "law.go:179", after := #[{ on := 9, ground := Ground.data }, { on := 13, ground := Ground.gcOnly Departure.lateStores }], guard := none }) (v := ?_) rfl (by kernel_rfl) (by kernel_rfl) (by kernel_rfl) (fun _ _ _ h => h) (Or.inl ⟨by kernel_rfl, ?_⟩) (by assumption) ?_
      rotate_left 1
      · intro w' hSw
        (try dsimp only at hSw)
        obtain ⟨z0, z1, z2, z3, z4, z5, z6⟩ := hSw.1
        clear hSw
        go_simp
        all_goals (with_reducible rfl)
      try (conv => arg 8; simp only [Act.put, List.setIfInBounds_toArray, List.set_cons_zero, List.set_cons_succ])
      clear hHeld
      refine wpAnyH_ready (rs := [13]) (by kernel_rfl) (by simp) ?_
      refine AllReadyH.cons (o := { dst := none, op := Op.store 30 (Operand.tmp 11) (Operand.tmp 42), type := 0, pos := "law.go:179", after := #[{ on := 12, ground := Ground.data }, { on := 10, ground := Ground.data }, { on := 8, ground := Ground.chain }, { on := 0, ground := Ground.phase }, { on := 1, ground := Ground.phase }, { on := 2, ground := Ground.phase }, { on := 3, ground := Ground.phase }, { on := 4, ground := Ground.phase }, { on := 5, ground := Ground.phase }, { on := 6, ground := Ground.phase }, { on := 7, ground := Ground.phase }, { on := 8, ground := Ground.phase }, { on := 9, ground := Ground.phase }, { on := 10, ground := Ground.phase }, { on := 11, ground := Ground.textOnly Departure.lateStores }, { on := 12, ground := Ground.phase }], guard := none }) rfl (fun K hK => ?_) AllReadyH.nil
      refine step_storeH _ _ rfl rfl rfl gn R2 rfl rfl hG ?_
      intro w6 e6
      have hk6 : Below W4.heap.size W4 w6 := by rw [e6.out]; exact hset_below hk hgn _
      refine hK.out _ _ (hKP.out _ hk6) (fun hHeld => ?_)
      clear hK K
      try (conv => arg 8; simp only [Act.put, List.setIfInBounds_toArray, List.set_cons_zero, List.set_cons_succ])
      refine wpAnyH_take (i := 14) (oi := { dst := some 12, op := Op.assign (Operand.tmp 43), type := 31, pos := "law.go:179", after := #[{ on := 11, ground := Ground.data }, { on := 13, ground := Ground.chain }, { on := 0, ground := Ground.phase }, { on := 1, ground := Ground.phase }, { on := 2, ground := Ground.phase }, { on := 3, ground := Ground.phase }, { on := 4, ground := Ground.phase }, { on := 5, ground := Ground.phase }, { on := 6, ground := Ground.phase }, { on := 7, ground := Ground.phase }, { on := 8, ground := Ground.phase }, { on := 9, ground := Ground.phase }, { on := 10, ground := Ground.phase }, { on := 11, ground := Ground.phase }, { on := 12, ground := Ground.phase }, { on := 13, ground := Ground.phase }], guard := none }) (v := ?_) rfl (by kernel_rfl) (by kernel_rfl) (by kernel_rfl) (fun _ _ _ h => h) (Or.inl ⟨by kernel_rfl, ?_⟩) (by assumption) ?_
      rotate_left 1
      · intro w' hSw
        (try dsimp only at hSw)
        obtain ⟨z0, z1, z2, z3, z4, z5, z6⟩ := hSw.1
        clear hSw
        go_simp
        all_goals (with_reducible rfl)
      try (conv => arg 8; simp only [Act.put, List.setIfInBounds_toArray, List.set_cons_zero, List.set_cons_succ])
      refine wpAnyH_done (by kernel_rfl) ?_ _
      try simp only [Act.put, List.getElem_toArray, List.getElem_cons_succ, List.getElem_cons_zero, List.setIfInBounds_toArray, List.set_cons_zero, List.set_cons_succ]
      go_wp2_with fail
      go_meet
      case rel => exact ⟨newH_end hG hk hgn e6.out, rfl⟩
    refine AllReadyH.cons (o := { dst := some 11, op := Op.alloc 30, type := 0, pos := "law.go:179", after := #[], guard := none }) rfl (fun K hK => ?_) AllReadyH.nil
    refine step_newH 11 rfl rfl rfl ?_
    intro gn y0 hG' eg hb
    have hgn : W4.heap.size ≤ gn := by rw [eg]; exact hk.size
    clear eg
    replace hk := kf_step hb hk
    clear hb
    have hG := hG'
    clear hG'
    refine hK.out _ _ (hKP.out _ hk) (fun hHeld => ?_)
    clear hK K
    try (conv => arg 8; simp only [Act.put, List.setIfInBounds_toArray, List.set_cons_zero, List.set_cons_succ])
    clear hHeld
    refine wpAnyH_ready (rs := [0,4]) (by kernel_rfl) (by simp) ?_
    refine AllReadyH.cons (o := { dst := some 33, op := Op.buildSlice 22 0 #[], type := 22, pos := "law.go:179", after := #[], guard := none }) rfl (fun K hK => ?_) ?_
    · as_aux_lemma =>
      refine step_bs0 33 rfl rfl rfl W4.heap.size hk.size ?_
      intro v y1 hO' hv hb
      clear hv
      replace hG := Fr3.below hG hb
      replace hk := kf_step hb hk
      clear hb
      have hO := hO'
      clear hO'
      refine hK.out _ _ (hKP.out _ hk) (fun hHeld => ?_)
      clear hK K
      try (conv => arg 8; simp only [Act.put, List.setIfInBounds_toArray, List.set_cons_zero, List.set_cons_succ])
      clear hHeld
      refine wpAnyH_ready (rs := [2,4]) (by kernel_rfl) (by simp) ?_
      refine AllReadyH.cons (o := { dst := some 35, op := Op.call { callee := Callee.builtin Builtin.append, args := #[Operand.tmp 33, Operand.tmp 34], argTypes := #[22, 22] }, type := 22, pos := "law.go:179", after := #[{ on := 0, ground := Ground.data }, { on := 1, ground := Ground.data }], guard := none }) rfl (fun K hK => ?_) ?_
      · as_aux_lemma =>
        refine step_app 35 _ _ rfl rfl rfl W4.heap.size v 0 [] rfl hO a n c f rfl (HE4.out.below hk) (by omega) hk.size ?_
        intro v2 y2 hO2 hgr hat
        replace hG := Fr3.grown hG hgr (Fr3.far hG hO)
        replace hk := kf_grown hgr hk hO
        clear hgr hat hO
        rw [List.nil_append, Nat.zero_add] at hO2
        refine hK.out _ _ (hKP.out _ hk) (fun hHeld => ?_)
        clear hK K
        try (conv => arg 8; simp only [Act.put, List.setIfInBounds_toArray, List.set_cons_zero, List.set_cons_succ])
        clear hHeld
        refine wpAnyH_ready (rs := [4]) (by kernel_rfl) (by simp) ?_
        refine AllReadyH.cons (o := { dst := some 37, op := Op.buildSlice 22 1 #[(0, Operand.tmp 36)], type := 22, pos := "law.go:179", after := #[{ on := 3, ground := Ground.data }], guard := none }) rfl (fun K hK => ?_) AllReadyH.nil
        refine step_bs1 37 _ x rfl rfl rfl rfl ?_
        intro gt y3 hT' et hb
        have hne2 := own_lt hO2 (g := gt) (by omega)
        clear et
        replace hO2 := own_below hO2 hb
        replace hG := Fr3.below hG hb
        replace hk := kf_step hb hk
        clear hb
        have hT := hT'
        clear hT'
        refine hK.out _ _ (hKP.out _ hk) (fun hHeld => ?_)
        clear hK K
        try (conv => arg 8; simp only [Act.put, List.setIfInBounds_toArray, List.set_cons_zero, List.set_cons_succ])
        clear hHeld
        refine wpAnyH_ready (rs := [5]) (by kernel_rfl) (by simp) ?_
        refine AllReadyH.cons (o := { dst := some 38, op := Op.call { callee := Callee.builtin Builtin.append, args := #[Operand.tmp 35, Operand.tmp 37], argTypes := #[22, 22] }, type := 22, pos := "law.go:179", after := #[{ on := 2, ground := Ground.data }, { on := 4, ground := Ground.data }, { on := 2, ground := Ground.chain }], guard := none }) rfl (fun K hK => ?_) AllReadyH.nil
        refine step_app 38 _ _ rfl rfl rfl W4.heap.size v2 n (lsE f n) rfl hO2 (some ⟨gt, 0, none⟩) 1 1 (fun _ => x) rfl (OneE.ents hT) (by omega) hk.size ?_
        intro v3 y4 hO3 hgr hat
        replace hG := Fr3.grown hG hgr (Fr3.far hG hO2)
        replace hk := kf_grown hgr hk hO2
        clear hgr hat hO2 hT hne2
        obtain ⟨q3, cr, rfl⟩ := own_slice hO3
        rw [← HLL.out] at hO3
        refine hK.out _ _ (hKP.out _ hk) (fun hHeld => ?_)
        clear hK K
        try (conv => arg 8; simp only [Act.put, List.setIfInBounds_toArray, List.set_cons_zero, List.set_cons_succ])
        clear hHeld
        refine wpAnyH_ready (rs := [8]) (by kernel_rfl) (by simp) ?_
        refine AllReadyH.cons (o := { dst := some 41, op := Op.call { callee := Callee.value (Operand.func 10), args := #[Operand.tmp 38, Operand.tmp 39, Operand.tmp 40], argTypes := #[22, 24, 27] }, type := 32, pos := "law.go:179", after := #[{ on := 5, ground := Ground.data }, { on := 6, ground := Ground.data }, { on := 7, ground := Ground.data }, { on := 5, ground := Ground.chain }], guard := none }) rfl (fun K hK => ?_) AllReadyH.nil
        refine step_call (by kernel_rfl) (ent_Sum ..) ?_
        refine (HS2.out _ _ _ hO3 q3 cr rfl).mono ?_
        rintro e y5 ⟨rfl, hb⟩
        clear hO3
        have hDone : True := trivial
        replace hG := Fr3.below hG hb
        replace hk := kf_step hb hk
        clear hb hDone
        refine hK.out _ _ (hKP.out _ hk) (fun hHeld => ?_)
        clear hK K
        try (conv => arg 8; simp only [Act.put, List.setIfInBounds_toArray, List.set_cons_zero, List.set_cons_succ])
        refine wpAnyH_take (i := 9) (oi := { dst := some 32, op := Op.move (Operand.tmp 41), type := 32, pos := "law.go:179", after := #[{ on := 8, ground := Ground.data }], guard := none }) (v := ?_) rfl (by kernel_rfl) (by kernel_rfl) (by kernel_rfl) (fun _ _ _ h => h) (Or.inl ⟨by kernel_rfl, ?_⟩) (by assumption) ?_
        rotate_left 1
        · intro w' hSw
          (try dsimp only at hSw)
          obtain ⟨z0, z1, z2, z3, z4, z5, z6⟩ := hSw.1
          clear hSw
          go_simp
          all_goals (with_reducible rfl)
        try (conv => arg 8; simp only [Act.put, List.setIfInBounds_toArray, List.set_cons_zero, List.set_cons_succ])
        refine wpAnyH_take (i := 10) (oi := { dst := some 42, op := Op.extract (Operand.tmp 32) 0, type := 30, pos := "law.go:179", after := #[{ on := 9, ground := Ground.data }], guard := none }) (v := ?_) rfl (by kernel_rfl) (by kernel_rfl) (by kernel_rfl) (fun _ _ _ h => h) (Or.inl ⟨by kernel_rfl, ?_⟩) (by assumption) ?_
        rotate_left 1
        · intro w' hSw
          (try dsimp only at hSw)
          obtain ⟨z0, z1, z2, z3, z4, z5, z6⟩ := hSw.1
          clear hSw
          go_simp
          all_goals (with_reducible rfl)
        try (conv => arg 8; simp only [Act.put, List.setIfInBounds_toArray, List.set_cons_zero, List.set_cons_succ])
        refine wpAnyH_take (i := 11) (oi := { dst := some 43, op := Op.extract (Operand.tmp 32) 1, type := 31, pos := "law.go:179", after := #[{ on := 9, ground := Ground.data }, { on := 13, ground := Ground.gcOnly Departure.lateStores }], guard := none }) (v := ?_) rfl (by kernel_rfl) (by kernel_rfl) (by kernel_rfl) (fun _ _ _ h => h) (Or.inl ⟨by kernel_rfl, ?_⟩) (by assumption) ?_
        rotate_left 1
        · intro w' hSw
          (try dsimp only at hSw)
          obtain ⟨z0, z1, z2, z3, z4, z5, z6⟩ := hSw.1
          clear hSw
          go_simp
          all_goals (with_reducible rfl)
        try (conv => arg 8; simp only [Act.put, List.setIfInBounds_toArray, List.set_cons_zero, List.set_cons_succ])
        clear hHeld
        refine wpAnyH_ready (rs := [13]) (by kernel_rfl) (by simp) ?_
        refine AllReadyH.cons (o := { dst := none, op := Op.store 30 (Operand.tmp 11) (Operand.tmp 42), type := 0, pos := "law.go:179", after := #[{ on := 12, ground := Ground.data }, { on := 10, ground := Ground.data }, { on := 8, ground := Ground.chain }, { on := 0, ground := Ground.phase }, { on := 1, ground := Ground.phase }, { on := 2, ground := Ground.phase }, { on := 3, ground := Ground.phase }, { on := 4, ground := Ground.phase }, { on := 5, ground := Ground.phase }, { on := 6, ground := Ground.phase }, { on := 7, ground := Ground.phase }, { on := 8, ground := Ground.phase }, { on := 9, ground := Ground.phase }, { on := 10, ground := Ground.phase }, { on := 11, ground := Ground.textOnly Departure.lateStores }, { on := 12, ground := Ground.phase }], guard := none }) rfl (fun K hK => ?_) AllReadyH.nil
        refine step_storeH _ _ rfl rfl rfl gn R2 rfl rfl hG ?_
        intro w6 e6
        have hk6 : Below W4.heap.size W4 w6 := by rw [e6.out]; exact hset_below hk hgn _
        refine hK.out _ _ (hKP.out _ hk6) (fun hHeld => ?_)
        clear hK K
        try (conv => arg 8; simp only [Act.put, List.setIfInBounds_toArray, List.set_cons_zero, List.set_cons_succ])
        refine wpAnyH_take (i := 14) (oi := { dst := some 12, op := Op.assign (Operand.tmp 43), type := 31, pos := "law.go:179", after := #[{ on := 11, ground := Ground.data }, { on := 13, ground := Ground.chain }, { on := 0, ground := Ground.phase }, { on := 1, ground := Ground.phase }, { on := 2, ground := Ground.phase }, { on := 3, ground := Ground.phase }, { on := 4, ground := Ground.phase }, { on := 5, ground := Ground.phase }, { on := 6, ground := Ground.phase }, { on := 7, ground := Ground.phase }, { on := 8, ground := Ground.phase }, { on := 9, ground := Ground.phase }, { on := 10, ground := Ground.phase }, { on := 11, ground := Ground.phase }, { on := 12, ground := Ground.phase }, { on := 13, ground := Ground.phase }], guard := none }) (v := ?_) rfl (by kernel_rfl) (by kernel_rfl) (by kernel_rfl) (fun _ _ _ h => h) (Or.inl ⟨by kernel_rfl, ?_⟩) (by assumption) ?_
        rotate_left 1
        · intro w' hSw
          (try dsimp only at hSw)
          obtain ⟨z0, z1, z2, z3, z4, z5, z6⟩ := hSw.1
          clear hSw
          go_simp
          all_goals (with_reducible rfl)
        try (conv => arg 8; simp only [Act.put, List.setIfInBounds_toArray, List.set_cons_zero, List.set_cons_succ])
        refine wpAnyH_done (by kernel_rfl) ?_ _
        try simp only [Act.put, List.getElem_toArray, List.getElem_cons_succ, List.getElem_cons_zero, List.setIfInBounds_toArray, List.set_cons_zero, List.set_cons_succ]
        go_wp2_with fail
        go_meet
        case rel => exact ⟨newH_end hG hk hgn e6.out, rfl⟩
      refine AllReadyH.cons (o := { dst := some 37, op := Op.buildSlice 22 1 #[(0, Operand.tmp 36)], type := 22, pos := "law.go:179", after := #[{ on := 3, ground := Ground.data }], guard := none }) rfl (fun K hK => ?_) AllReadyH.nil
      refine step_bs1 37 _ x rfl rfl rfl rfl ?_
      intro gt y2 hT' et hb
      have hne := own_lt hO (g := gt) (by omega)
      clear et
      replace hO := own_below hO hb
      replace hG := Fr3.below hG hb
      replace hk := kf_step hb hk
      clear hb
      have hT := hT'
      clear hT'
      refine hK.out _ _ (hKP.out _ hk) (fun hHeld => ?_)
      clear hK K
      try (conv => arg 8; simp only [Act.put, List.setIfInBounds_toArray, List.set_cons_zero, List.set_cons_succ])
      clear hHeld
      refine wpAnyH_ready (rs := [2]) (by kernel_rfl) (by simp) ?_
      refine AllReadyH.cons (o := { dst := some 35, op := Op.call { callee := Callee.builtin Builtin.append, args := #[Operand.tmp 33, Operand.tmp 34], argTypes := #[22, 22] }, type := 22, pos := "law.go:179", after := #[{ on := 0, ground := Ground.data }, { on := 1, ground := Ground.data }], guard := none }) rfl (fun K hK => ?_) AllReadyH.nil
      refine step_app 35 _ _ rfl rfl rfl W4.heap.size v 0 [] rfl hO a n c f rfl (HE4.out.below hk) (by omega) hk.size ?_
      intro v2 y3 hO2 hgr hat
      replace hG := Fr3.grown hG hgr (Fr3.far hG hO)
      have hne2 := ne_app hne (lt_of_at hT) hat
      replace hT := OneE.grown hT hgr hne
      clear hne
      replace hk := kf_grown hgr hk hO
      clear hgr hat hO
      rw [List.nil_append, Nat.zero_add] at hO2
      refine hK.out _ _ (hKP.out _ hk) (fun hHeld => ?_)
      clear hK K
      try (conv => arg 8; simp only [Act.put, List.setIfInBounds_toArray, List.set_cons_zero, List.set_cons_succ])
      clear hHeld
      refine wpAnyH_ready (rs := [5]) (by kernel_rfl) (by simp) ?_
      refine AllReadyH.cons (o := { dst := some 38, op := Op.call { callee := Callee.builtin Builtin.append, args := #[Operand.tmp 35, Operand.tmp 37], argTypes := #[22, 22] }, type := 22, pos := "law.go:179", after := #[{ on := 2, ground := Ground.data }, { on := 4, ground := Ground.data }, { on := 2, ground := Ground.chain }], guard := none }) rfl (fun K hK => ?_) AllReadyH.nil
      refine step_app 38 _ _ rfl rfl rfl W4.heap.size v2 n (lsE f n) rfl hO2 (some ⟨gt, 0, none⟩) 1 1 (fun _ => x) rfl (OneE.ents hT) (by omega) hk.size ?_
      intro v3 y4 hO3 hgr hat
      replace hG := Fr3.grown hG hgr (Fr3.far hG hO2)
      replace hk := kf_grown hgr hk hO2
      clear hgr hat hO2 hT hne2
      obtain ⟨q3, cr, rfl⟩ := own_slice hO3
      rw [← HLL.out] at hO3
      refine hK.out _ _ (hKP.out _ hk) (fun hHeld => ?_)
      clear hK K
      try (conv => arg 8; simp only [Act.put, List.setIfInBounds_toArray, List.set_cons_zero, List.set_cons_succ])
      clear hHeld
      refine wpAnyH_ready (rs := [8]) (by kernel_rfl) (by simp) ?_
      refine AllReadyH.cons (o := { dst := some 41, op := Op.call { callee := Callee.value (Operand.func 10), args := #[Operand.tmp 38, Operand.tmp 39, Operand.tmp 40], argTypes := #[22, 24, 27] }, type := 32, pos := "law.go:179", after := #[{ on := 5, ground := Ground.data }, { on := 6, ground := Ground.data }, { on := 7, ground := Ground.data }, { on := 5, ground := Ground.chain }], guard := none }) rfl (fun K hK => ?_) AllReadyH.nil
      refine step_call (by kernel_rfl) (ent_Sum ..) ?_
      refine (HS2.out _ _ _ hO3 q3 cr rfl).mono ?_
      rintro e y5 ⟨rfl, hb⟩
      clear hO3
      have hDone : True := trivial
      replace hG := Fr3.below hG hb
      replace hk := kf_step hb hk
      clear hb hDone
      refine hK.out _ _ (hKP.out _ hk) (fun hHeld => ?_)
      clear hK K
      try (conv => arg 8; simp only [Act.put, List.setIfInBounds_toArray, List.set_cons_zero, List.set_cons_succ])
      refine wpAnyH_take (i := 9) (oi := { dst := some 32, op := Op.move (Operand.tmp 41), type := 32, pos := "law.go:179", after := #[{ on := 8, ground := Ground.data }], guard := none }) (v := ?_) rfl (by kernel_rfl) (by kernel_rfl) (by kernel_rfl) (fun _ _ _ h => h) (Or.inl ⟨by kernel_rfl, ?_⟩) (by assumption) ?_
      rotate_left 1
      · intro w' hSw
        (try dsimp only at hSw)
        obtain ⟨z0, z1, z2, z3, z4, z5, z6⟩ := hSw.1
        clear hSw
        go_simp
        all_goals (with_reducible rfl)
      try (conv => arg 8; simp only [Act.put, List.setIfInBounds_toArray, List.set_cons_zero, List.set_cons_succ])
      refine wpAnyH_take (i := 10) (oi := { dst := some 42, op := Op.extract (Operand.tmp 32) 0, type := 30, pos := "law.go:179", after := #[{ on := 9, ground := Ground.data }], guard := none }) (v := ?_) rfl (by kernel_rfl) (by kernel_rfl) (by kernel_rfl) (fun _ _ _ h => h) (Or.inl ⟨by kernel_rfl, ?_⟩) (by assumption) ?_
      rotate_left 1
      · intro w' hSw
        (try dsimp only at hSw)
        obtain ⟨z0, z1, z2, z3, z4, z5, z6⟩ := hSw.1
        clear hSw
        go_simp
        all_goals (with_reducible rfl)
      try (conv => arg 8; simp only [Act.put, List.setIfInBounds_toArray, List.set_cons_zero, List.set_cons_succ])
      refine wpAnyH_take (i := 11) (oi := { dst := some 43, op := Op.extract (Operand.tmp 32) 1, type := 31, pos := "law.go:179", after := #[{ on := 9, ground := Ground.data }, { on := 13, ground := Ground.gcOnly Departure.lateStores }], guard := none }) (v := ?_) rfl (by kernel_rfl) (by kernel_rfl) (by kernel_rfl) (fun _ _ _ h => h) (Or.inl ⟨by kernel_rfl, ?_⟩) (by assumption) ?_
      rotate_left 1
      · intro w' hSw
        (try dsimp only at hSw)
        obtain ⟨z0, z1, z2, z3, z4, z5, z6⟩ := hSw.1
        clear hSw
        go_simp
        all_goals (with_reducible rfl)
      try (conv => arg 8; simp only [Act.put, List.setIfInBounds_toArray, List.set_cons_zero, List.set_cons_succ])
      clear hHeld
      refine wpAnyH_ready (rs := [13]) (by kernel_rfl) (by simp) ?_
      refine AllReadyH.cons (o := { dst := none, op := Op.store 30 (Operand.tmp 11) (Operand.tmp 42), type := 0, pos := "law.go:179", after := #[{ on := 12, ground := Ground.data }, { on := 10, ground := Ground.data }, { on := 8, ground := Ground.chain }, { on := 0, ground := Ground.phase }, { on := 1, ground := Ground.phase }, { on := 2, ground := Ground.phase }, { on := 3, ground := Ground.phase }, { on := 4, ground := Ground.phase }, { on := 5, ground := Ground.phase }, { on := 6, ground := Ground.phase }, { on := 7, ground := Ground.phase }, { on := 8, ground := Ground.phase }, { on := 9, ground := Ground.phase }, { on := 10, ground := Ground.phase }, { on := 11, ground := Ground.textOnly Departure.lateStores }, { on := 12, ground := Ground.phase }], guard := none }) rfl (fun K hK => ?_) AllReadyH.nil
      refine step_storeH _ _ rfl rfl rfl gn R2 rfl rfl hG ?_
      intro w6 e6
      have hk6 : Below W4.heap.size W4 w6 := by rw [e6.out]; exact hset_below hk hgn _
      refine hK.out _ _ (hKP.out _ hk6) (fun hHeld => ?_)
      clear hK K
      try (conv => arg 8; simp only [Act.put, List.setIfInBounds_toArray, List.set_cons_zero, List.set_cons_succ])
      refine wpAnyH_take (i := 14) (oi := { dst := some 12, op := Op.assign (Operand.tmp 43), type := 31, pos := "law.go:179", after := #[{ on := 11, ground := Ground.data }, { on := 13, ground := Ground.chain }, { on := 0, ground := Ground.phase }, { on := 1, ground := Ground.phase }, { on := 2, ground := Ground.phase }, { on := 3, ground := Ground.phase }, { on := 4, ground := Ground.phase }, { on := 5, ground := Ground.phase }, { on := 6, ground := Ground.phase }, { on := 7, ground := Ground.phase }, { on := 8, ground := Ground.phase }, { on := 9, ground := Ground.phase }, { on := 10, ground := Ground.phase }, { on := 11, ground := Ground.phase }, { on := 12, ground := Ground.phase }, { on := 13, ground := Ground.phase }], guard := none }) (v := ?_) rfl (by kernel_rfl) (by kernel_rfl) (by kernel_rfl) (fun _ _ _ h => h) (Or.inl ⟨by kernel_rfl, ?_⟩) (by assumption) ?_
      rotate_left 1
      · intro w' hSw
        (try dsimp only at hSw)
        obtain ⟨z0, z1, z2, z3, z4, z5, z6⟩ := hSw.1
        clear hSw
        go_simp
        all_goals (with_reducible rfl)
      try (conv => arg 8; simp only [Act.put, List.setIfInBounds_toArray, List.set_cons_zero, List.set_cons_succ])
      refine wpAnyH_done (by kernel_rfl) ?_ _
      try simp only [Act.put, List.getElem_toArray, List.getElem_cons_succ, List.getElem_cons_zero, List.setIfInBounds_toArray, List.set_cons_zero, List.set_cons_succ]
      go_wp2_with fail
      go_meet
      case rel => exact ⟨newH_end hG hk hgn e6.out, rfl⟩
    refine AllReadyH.cons (o := { dst := some 37, op := Op.buildSlice 22 1 #[(0, Operand.tmp 36)], type := 22, pos := "law.go:179", after := #[{ on := 3, ground := Ground.data }], guard := none }) rfl (fun K hK => ?_) AllReadyH.nil
    refine step_bs1 37 _ x rfl rfl rfl rfl ?_
    intro gt y1 hT' et hb
    clear et
    replace hG := Fr3.below hG hb
    replace hk := kf_step hb hk
    clear hb
    have hT := hT'
    clear hT'
    refine hK.out _ _ (hKP.out _ hk) (fun hHeld => ?_)
    clear hK K
    try (conv => arg 8; simp only [Act.put, List.setIfInBounds_toArray, List.set_cons_zero, List.set_cons_succ])
    clear hHeld
    refine wpAnyH_ready (rs := [0]) (by kernel_rfl) (by simp) ?_
    refine AllReadyH.cons (o := { dst := some 33, op := Op.buildSlice 22 0 #[], type := 22, pos := "law.go:179", after := #[], guard := none }) rfl (fun K hK => ?_) AllReadyH.nil
    refine step_bs0 33 rfl rfl rfl W4.heap.size hk.size ?_
    intro v y2 hO' hv hb
    have hne := ne_new (lt_of_at hT) hv
    clear hv
    replace hT := OneE.below hT hb
    replace hG := Fr3.below hG hb
    replace hk := kf_step hb hk
    clear hb
    have hO := hO'
    clear hO'
    refine hK.out _ _ (hKP.out _ hk) (fun hHeld => ?_)
    clear hK K
    try (conv => arg 8; simp only [Act.put, List.setIfInBounds_toArray, List.set_cons_zero, List.set_cons_succ])
    clear hHeld
    refine wpAnyH_ready (rs := [2]) (by kernel_rfl) (by simp) ?_
    refine AllReadyH.cons (o := { dst := some 35, op := Op.call { callee := Callee.builtin Builtin.append, args := #[Operand.tmp 33, Operand.tmp 34], argTypes := #[22, 22] }, type := 22, pos := "law.go:179", after := #[{ on := 0, ground := Ground.data }, { on := 1, ground := Ground.data }], guard := none }) rfl (fun K hK => ?_) AllReadyH.nil
    refine step_app 35 _ _ rfl rfl rfl W4.heap.size v 0 [] rfl hO a n c f rfl (HE4.out.below hk) (by omega) hk.size ?_
    intro v2 y3 hO2 hgr hat
    replace hG := Fr3.grown hG hgr (Fr3.far hG hO)
    have hne2 := ne_app hne (lt_of_at hT) hat
    replace hT := OneE.grown hT hgr hne
    clear hne
    replace hk := kf_grown hgr hk hO
    clear hgr hat hO
    rw [List.nil_append, Nat.zero_add] at hO2
    refine hK.out _ _ (hKP.out _ hk) (fun hHeld => ?_)
    clear hK K
    try (conv => arg 8; simp only [Act.put, List.setIfInBounds_toArray, List.set_cons_zero, List.set_cons_succ])
    clear hHeld
    refine wpAnyH_ready (rs := [5]) (by kernel_rfl) (by simp) ?_
    refine AllReadyH.cons (o := { dst := some 38, op := Op.call { callee := Callee.builtin Builtin.append, args := #[Operand.tmp 35, Operand.tmp 37], argTypes := #[22, 22] }, type := 22, pos := "law.go:179", after := #[{ on := 2, ground := Ground.data }, { on := 4, ground := Ground.data }, { on := 2, ground := Ground.chain }], guard := none }) rfl (fun K hK => ?_) AllReadyH.nil
    refine step_app 38 _ _ rfl rfl rfl W4.heap.size v2 n (lsE f n) rfl hO2 (some ⟨gt, 0, none⟩) 1 1 (fun _ => x) rfl (OneE.ents hT) (by omega) hk.size ?_
    intro v3 y4 hO3 hgr hat
    replace hG := Fr3.grown hG hgr (Fr3.far hG hO2)
    replace hk := kf_grown hgr hk hO2
    clear hgr hat hO2 hT hne2
    obtain ⟨q3, cr, rfl⟩ := own_slice hO3
    rw [← HLL.out] at hO3
    refine hK.out _ _ (hKP.out _ hk) (fun hHeld => ?_)
    clear hK K
    try (conv => arg 8; simp only [Act.put, List.setIfInBounds_toArray, List.set_cons_zero, List.set_cons_succ])
    clear hHeld
    refine wpAnyH_ready (rs := [8]) (by kernel_rfl) (by simp) ?_
    refine AllReadyH.cons (o := { dst := some 41, op := Op.call { callee := Callee.value (Operand.func 10), args := #[Operand.tmp 38, Operand.tmp 39, Operand.tmp 40], argTypes := #[22, 24, 27] }, type := 32, pos := "law.go:179", after := #[{ on := 5, ground := Ground.data }, { on := 6, ground := Ground.data }, { on := 7, ground := Ground.data }, { on := 5, ground := Ground.chain }], guard := none }) rfl (fun K hK => ?_) AllReadyH.nil
    refine step_call (by kernel_rfl) (ent_Sum ..) ?_
    refine (HS2.out _ _ _ hO3 q3 cr rfl).mono ?_
    rintro e y5 ⟨rfl, hb⟩
    clear hO3
    have hDone : True := trivial
    replace hG := Fr3.below hG hb
    replace hk := kf_step hb hk
    clear hb hDone
    refine hK.out _ _ (hKP.out _ hk) (fun hHeld => ?_)
    clear hK K
    try (conv => arg 8; simp only [Act.put, List.setIfInBounds_toArray, List.set_cons_zero, List.set_cons_succ])
    refine wpAnyH_take (i := 9) (oi := { dst := some 32, op := Op.move (Operand.tmp 41), type := 32, pos := "law.go:179", after := #[{ on := 8, ground := Ground.data }], guard := none }) (v := ?_) rfl (by kernel_rfl) (by kernel_rfl) (by kernel_rfl) (fun _ _ _ h => h) (Or.inl ⟨by kernel_rfl, ?_⟩) (by assumption) ?_
    rotate_left 1
    · intro w' hSw
      (try dsimp only at hSw)
      obtain ⟨z0, z1, z2, z3, z4, z5, z6⟩ := hSw.1
      clear hSw
      go_simp
      all_goals (with_reducible rfl)
    try (conv => arg 8; simp only [Act.put, List.setIfInBounds_toArray, List.set_cons_zero, List.set_cons_succ])
    refine wpAnyH_take (i := 10) (oi := { dst := some 42, op := Op.extract (Operand.tmp 32) 0, type := 30, pos := "law.go:179", after := #[{ on := 9, ground := Ground.data }], guard := none }) (v := ?_) rfl (by kernel_rfl) (by kernel_rfl) (by kernel_rfl) (fun _ _ _ h => h) (Or.inl ⟨by kernel_rfl, ?_⟩) (by assumption) ?_
    rotate_left 1
    · intro w' hSw
      (try dsimp only at hSw)
      obtain ⟨z0, z1, z2, z3, z4, z5, z6⟩ := hSw.1
      clear hSw
      go_simp
      all_goals (with_reducible rfl)
    try (conv => arg 8; simp only [Act.put, List.setIfInBounds_toArray, List.set_cons_zero, List.set_cons_succ])
    refine wpAnyH_take (i := 11) (oi := { dst := some 43, op := Op.extract (Operand.tmp 32) 1, type := 31, pos := "law.go:179", after := #[{ on := 9, ground := Ground.data }, { on := 13, ground := Ground.gcOnly Departure.lateStores }], guard := none }) (v := ?_) rfl (by kernel_rfl) (by kernel_rfl) (by kernel_rfl) (fun _ _ _ h => h) (Or.inl ⟨by kernel_rfl, ?_⟩) (by assumption) ?_
    rotate_left 1
    · intro w' hSw
      (try dsimp only at hSw)
      obtain ⟨z0, z1, z2, z3, z4, z5, z6⟩ := hSw.1
      clear hSw
      go_simp
      all_goals (with_reducible rfl)
    try (conv => arg 8; simp only [Act.put, List.setIfInBounds_toArray, List.set_cons_zero, List.set_cons_succ])
    clear hHeld
    refine wpAnyH_ready (rs := [13]) (by kernel_rfl) (by simp) ?_
    refine AllReadyH.cons (o := { dst := none, op := Op.store 30 (Operand.tmp 11) (Operand.tmp 42), type := 0, pos := "law.go:179", after := #[{ on := 12, ground := Ground.data }, { on := 10, ground := Ground.data }, { on := 8, ground := Ground.chain }, { on := 0, ground := Ground.phase }, { on := 1, ground := Ground.phase }, { on := 2, ground := Ground.phase }, { on := 3, ground := Ground.phase }, { on := 4, ground := Ground.phase }, { on := 5, ground := Ground.phase }, { on := 6, ground := Ground.phase }, { on := 7, ground := Ground.phase }, { on := 8, ground := Ground.phase }, { on := 9, ground := Ground.phase }, { on := 10, ground := Ground.phase }, { on := 11, ground := Ground.textOnly Departure.lateStores }, { on := 12, ground := Ground.phase }], guard := none }) rfl (fun K hK => ?_) AllReadyH.nil
    refine step_storeH _ _ rfl rfl rfl gn R2 rfl rfl hG ?_
    intro w6 e6
    have hk6 : Below W4.heap.size W4 w6 := by rw [e6.out]; exact hset_below hk hgn _
    refine hK.out _ _ (hKP.out _ hk6) (fun hHeld => ?_)
    clear hK K
    try (conv => arg 8; simp only [Act.put, List.setIfInBounds_toArray, List.set_cons_zero, List.set_cons_succ])
    refine wpAnyH_take (i := 14) (oi := { dst := some 12, op := Op.assign (Operand.tmp 43), type := 31, pos := "law.go:179", after := #[{ on := 11, ground := Ground.data }, { on := 13, ground := Ground.chain }, { on := 0, ground := Ground.phase }, { on := 1, ground := Ground.phase }, { on := 2, ground := Ground.phase }, { on := 3, ground := Ground.phase }, { on := 4, ground := Ground.phase }, { on := 5, ground := Ground.phase }, { on := 6, ground := Ground.phase }, { on := 7, ground := Ground.phase }, { on := 8, ground := Ground.phase }, { on := 9, ground := Ground.phase }, { on := 10, ground := Ground.phase }, { on := 11, ground := Ground.phase }, { on := 12, ground := Ground.phase }, { on := 13, ground := Ground.phase }], guard := none }) (v := ?_) rfl (by kernel_rfl) (by kernel_rfl) (by kernel_rfl) (fun _ _ _ h => h) (Or.inl ⟨by kernel_rfl, ?_⟩) (by assumption) ?_
    rotate_left 1
    · intro w' hSw
      (try dsimp only at hSw)
      obtain ⟨z0, z1, z2, z3, z4, z5, z6⟩ := hSw.1
      clear hSw
      go_simp
      all_goals (with_reducible rfl)
    try (conv => arg 8; simp only [Act.put, List.setIfInBounds_toArray, List.set_cons_zero, List.set_cons_succ])
    refine wpAnyH_done (by kernel_rfl) ?_ _
    try simp only [Act.put, List.getElem_toArray, List.getElem_cons_succ, List.getElem_cons_zero, List.setIfInBounds_toArray, List.set_cons_zero, List.set_cons_succ]
    go_wp2_with fail
    go_meet
    case rel => exact ⟨newH_end hG hk hgn e6.out, rfl⟩
  case rest =>
    obtain ⟨V6, hV6⟩ : ∃ V, V = wc := ⟨_, rfl⟩
    rw [← hV6] at hcut ⊢
    clear hV6
    obtain ⟨⟨g2, rfl, X2, hg2, hb6⟩, rfl⟩ := hcut
    have X1' := X1.below hb6
    have HF := Lib.hid (HBW.out.trans (hb6.mono HBW.out.size))
    obtain ⟨⟨p0, p1, p2⟩, -⟩ := X1'
    obtain ⟨⟨q0, q1, q2⟩, -⟩ := X2
    clear X1 hb6 HBW c0 c1 c2 c3 c4 c5 c6 HE4 HS2 HLL
    by_cases h1 : C1 = 0
    · subst h1
      by_cases h2 : C2 = 0
      · subst h2
        have hR := HEQ.out rfl rfl
        subst hR
        clear HEQ
        obtain ⟨R10, R11, R12⟩ := R1
        simp only at *
        go_wp2
        go_ret
        exact ⟨rfl, HF.out⟩
      · have e2 : (C2 != 0) = true := by simpa using h2
        clear HEQ
        obtain ⟨R10, R11, R12⟩ := R1
        obtain ⟨R20, R21, R22⟩ := R2
        simp only at *
        go_wp2
        go_ret
        exact ⟨rfl, HF.out⟩
    · have e1 : (C1 != 0) = true := by simpa using h1
      clear HEQ
      obtain ⟨R10, R11, R12⟩ := R1
      obtain ⟨R20, R21, R22⟩ := R2
      simp only at *
      go_wp2
      go_ret
      exact ⟨rfl, HF.out⟩

end Go.Proofs.Ytlfflnfodnegnaa
