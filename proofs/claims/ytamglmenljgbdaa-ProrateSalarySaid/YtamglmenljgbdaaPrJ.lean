/-
  What is proved: the contract of 'of' of the statements: the pieces as the document's own. Conditions: at most 5000 pieces, which lie in memory as the contract says.
-/
import Derived.Test.YtamglmenljgbdaaPrI
namespace Go.Proofs.Ytamglmenljgbdaa
open Go Go.RowKit Go.Proofs
set_option linter.unusedVariables false
set_option linter.unusedSimpArgs false

theorem kf_step {W0 w w' : World} (hb : Below w.heap.size w w') (h : Below W0.heap.size W0 w) : Below W0.heap.size W0 w' := h.trans (hb.mono h.size)
theorem take_next' {L : List Pc} {k : Nat} (h : k < L.length) {q : Pc} (e : q = L.getD k ((0, 0), 0, 0)) : L.take (k + 1) = L.take k ++ [q] := by rw [e]; exact take_next h
set_option maxHeartbeats 4000000 in
set_option maxRecDepth 100000 in
theorem of_any (L : List Pc) (p : Option Addr) (n c : Nat) (w : World) (hl : L.length = n) (h : PcsIn w p L) (hn : n ≤ 5000) :
    Calls Try.prog 16 #[.slice p n c] w fun e w' => ∃ (q : Option Addr) (c' : Nat), e = .returned (.slice q n c') ∧ PcsIn w' q L ∧ Below w.heap.size w w' := by
  have HE := Lib.hid h
  have HLn := Lib.hid hl
  have HO0 : Hid (w.ownsRow w.heap.size 64 4 (.slice none 0 0) 0 (pcC (L.take 0))) := Lib.hid ⟨rfl, .inl ⟨rfl, rfl⟩⟩
  clear h hl
  go_enter Try.func16, Try.ntmps16
  go_wp2
  go_loopw [4, 3] (fun iv hv wr => ∃ k : Nat, k ≤ n ∧ iv = .int .i64 k ∧ Hid (wr.ownsRow w.heap.size 64 4 hv k (pcC (L.take k))) ∧ Hid (Below w.heap.size w wr)) (fun iv _ _ => n - (RowKit.intOf iv).toNat)
  case atStart => exact ⟨0, by omega, rfl, HO0, Lib.hid (Below.refl _ _)⟩
  case round =>
    obtain ⟨k, hk, rfl, HO, HB⟩ := hrel
    by_cases hlt : k < n
    · have hlI : (k : Int) < (n : Int) := by omega
      have hkl : k < L.length := by rw [HLn.out]; exact hlt
      have hbw : ∀ b o s, p = some (Addr.mk b o s) → b < w.heap.size := fun b o s hp => by
        rcases HE.out with h | ⟨b', o', hp', hc'⟩
        · rw [h] at hkl; simp at hkl
        · obtain ⟨x0, -, -, -⟩ := hc' k hkl
          rw [hp] at hp'
          injection Option.some.inj hp' with e1
          rw [e1]; exact World.block_lt_of_cell? _ _ x0
      rcases (HE.out.below HB.out (Nat.le_refl _)) with h | ⟨b, o, rfl, hc⟩
      · rw [h] at hkl; simp at hkl
      replace hbw := hbw b o none rfl
      obtain ⟨xa, xb, xc, xd⟩ := hc k hkl
      clear hc
      obtain ⟨q, hq⟩ : ∃ q, q = L.getD k ((0, 0), 0, 0) := ⟨_, rfl⟩
      rw [← hq] at xa xb xc xd
      have HX := Lib.hid (take_next' hkl hq)
      clear hq hkl
      obtain ⟨W4, hW4⟩ : ∃ V, V = wr := ⟨_, rfl⟩
      go_wp2
      rw [← hW4] at xa xb xc xd HO HB ⊢
      clear hW4
      have hKP : Hid (∀ w', Below W4.heap.size W4 w' → (w'.cell? ⟨b, o + k * 4, none⟩ = some (.int .i64 q.1.1) ∧ w'.cell? ⟨b, o + k * 4 + 1, none⟩ = some (.int .i64 q.1.2) ∧ w'.cell? ⟨b, o + k * 4 + 2, none⟩ = some (.int .i64 q.2.1) ∧ w'.cell? ⟨b, o + k * 4 + 3, none⟩ = some (.int .i64 q.2.2))) := Lib.hid (fun w' h => ⟨stay h xa, stay h xb, stay h xc, stay h xd⟩)
      clear xa xb xc xd
      refine wp_region_held_drew (S := fun w' => (w'.cell? ⟨b, o + k * 4, none⟩ = some (.int .i64 q.1.1) ∧ w'.cell? ⟨b, o + k * 4 + 1, none⟩ = some (.int .i64 q.1.2) ∧ w'.cell? ⟨b, o + k * 4 + 2, none⟩ = some (.int .i64 q.2.1) ∧ w'.cell? ⟨b, o + k * 4 + 3, none⟩ = some (.int .i64 q.2.2))) (by kernel_rfl) (hKP.out _ (Below.refl _ _).drew) (fun hHeld => ?_)
      refine wpAnyH_take (i := 0) (oi := { dst := some 11, op := Op.move (Operand.tmp 3), type := 37, pos := "law.go:24", after := #[], guard := none }) (v := ?_) rfl (by kernel_rfl) (by kernel_rfl) (by kernel_rfl) (fun _ _ _ h => h) (Or.inl ⟨by kernel_rfl, ?_⟩) (by assumption) ?_
      rotate_left 1
      · intro w' hSw
        (try dsimp only at hSw)
        obtain ⟨z0, z1, z2, z3⟩ := hSw
        go_simp
        all_goals (with_reducible rfl)
      try (conv => arg 8; simp only [Act.put, List.setIfInBounds_toArray, List.set_cons_zero, List.set_cons_succ])
      refine wpAnyH_take (i := 1) (oi := { dst := some 12, op := Op.move (Operand.tmp 0), type := 28, pos := "law.go:24", after := #[], guard := none }) (v := ?_) rfl (by kernel_rfl) (by kernel_rfl) (by kernel_rfl) (fun _ _ _ h => h) (Or.inl ⟨by kernel_rfl, ?_⟩) (by assumption) ?_
      rotate_left 1
      · intro w' hSw
        (try dsimp only at hSw)
        obtain ⟨z0, z1, z2, z3⟩ := hSw
        go_simp
        all_goals (with_reducible rfl)
      try (conv => arg 8; simp only [Act.put, List.setIfInBounds_toArray, List.set_cons_zero, List.set_cons_succ])
      refine wpAnyH_take (i := 2) (oi := { dst := some 13, op := Op.move (Operand.tmp 4), type := 3, pos := "law.go:24", after := #[], guard := none }) (v := ?_) rfl (by kernel_rfl) (by kernel_rfl) (by kernel_rfl) (fun _ _ _ h => h) (Or.inl ⟨by kernel_rfl, ?_⟩) (by assumption) ?_
      rotate_left 1
      · intro w' hSw
        (try dsimp only at hSw)
        obtain ⟨z0, z1, z2, z3⟩ := hSw
        go_simp
        all_goals (with_reducible rfl)
      try (conv => arg 8; simp only [Act.put, List.setIfInBounds_toArray, List.set_cons_zero, List.set_cons_succ])
      refine wpAnyH_take (i := 3) (oi := { dst := some 14, op := Op.indexAddr 28 (Operand.tmp 12) (Operand.tmp 13), type := 0, pos := "law.go:24", after := #[{ on := 1, ground := Ground.data }, { on := 2, ground := Ground.data }], guard := none }) (v := ?_) rfl (by kernel_rfl) (by kernel_rfl) (by kernel_rfl) (fun _ _ _ h => h) (Or.inl ⟨by kernel_rfl, ?_⟩) (by assumption) ?_
      rotate_left 1
      · intro w' hSw
        (try dsimp only at hSw)
        obtain ⟨z0, z1, z2, z3⟩ := hSw
        go_simp
        all_goals (with_reducible rfl)
      try (conv => arg 8; simp only [Act.put, List.setIfInBounds_toArray, List.set_cons_zero, List.set_cons_succ])
      refine wpAnyH_take (i := 4) (oi := { dst := some 15, op := Op.fieldAddr 50 (Operand.tmp 14) 0, type := 0, pos := "law.go:24", after := #[{ on := 3, ground := Ground.data }], guard := none }) (v := ?_) rfl (by kernel_rfl) (by kernel_rfl) (by kernel_rfl) (fun _ _ _ h => h) (Or.inl ⟨by kernel_rfl, ?_⟩) (by assumption) ?_
      rotate_left 1
      · intro w' hSw
        (try dsimp only at hSw)
        obtain ⟨z0, z1, z2, z3⟩ := hSw
        go_simp
        all_goals (with_reducible rfl)
      try (conv => arg 8; simp only [Act.put, List.setIfInBounds_toArray, List.set_cons_zero, List.set_cons_succ])
      refine wpAnyH_take (i := 5) (oi := { dst := some 16, op := Op.load 24 (Operand.tmp 15), type := 24, pos := "law.go:24", after := #[{ on := 4, ground := Ground.data }], guard := none }) (v := ?_) rfl (by kernel_rfl) (by kernel_rfl) (by kernel_rfl) (fun _ _ _ h => h) (Or.inl ⟨by kernel_rfl, ?_⟩) (by assumption) ?_
      rotate_left 1
      · intro w' hSw
        (try dsimp only at hSw)
        obtain ⟨z0, z1, z2, z3⟩ := hSw
        go_simp
        all_goals (with_reducible rfl)
      try (conv => arg 8; simp only [Act.put, List.setIfInBounds_toArray, List.set_cons_zero, List.set_cons_succ])
      refine wpAnyH_take (i := 6) (oi := { dst := some 17, op := Op.move (Operand.tmp 0), type := 28, pos := "law.go:24", after := #[], guard := none }) (v := ?_) rfl (by kernel_rfl) (by kernel_rfl) (by kernel_rfl) (fun _ _ _ h => h) (Or.inl ⟨by kernel_rfl, ?_⟩) (by assumption) ?_
      rotate_left 1
      · intro w' hSw
        (try dsimp only at hSw)
        obtain ⟨z0, z1, z2, z3⟩ := hSw
        go_simp
        all_goals (with_reducible rfl)
      try (conv => arg 8; simp only [Act.put, List.setIfInBounds_toArray, List.set_cons_zero, List.set_cons_succ])
      refine wpAnyH_take (i := 7) (oi := { dst := some 18, op := Op.move (Operand.tmp 4), type := 3, pos := "law.go:24", after := #[], guard := none }) (v := ?_) rfl (by kernel_rfl) (by kernel_rfl) (by kernel_rfl) (fun _ _ _ h => h) (Or.inl ⟨by kernel_rfl, ?_⟩) (by assumption) ?_
      rotate_left 1
      · intro w' hSw
        (try dsimp only at hSw)
        obtain ⟨z0, z1, z2, z3⟩ := hSw
        go_simp
        all_goals (with_reducible rfl)
      try (conv => arg 8; simp only [Act.put, List.setIfInBounds_toArray, List.set_cons_zero, List.set_cons_succ])
      refine wpAnyH_take (i := 8) (oi := { dst := some 19, op := Op.indexAddr 28 (Operand.tmp 17) (Operand.tmp 18), type := 0, pos := "law.go:24", after := #[{ on := 6, ground := Ground.data }, { on := 7, ground := Ground.data }], guard := none }) (v := ?_) rfl (by kernel_rfl) (by kernel_rfl) (by kernel_rfl) (fun _ _ _ h => h) (Or.inl ⟨by kernel_rfl, ?_⟩) (by assumption) ?_
      rotate_left 1
      · intro w' hSw
        (try dsimp only at hSw)
        obtain ⟨z0, z1, z2, z3⟩ := hSw
        go_simp
        all_goals (with_reducible rfl)
      try (conv => arg 8; simp only [Act.put, List.setIfInBounds_toArray, List.set_cons_zero, List.set_cons_succ])
      refine wpAnyH_take (i := 9) (oi := { dst := some 20, op := Op.fieldAddr 50 (Operand.tmp 19) 1, type := 0, pos := "law.go:24", after := #[{ on := 8, ground := Ground.data }], guard := none }) (v := ?_) rfl (by kernel_rfl) (by kernel_rfl) (by kernel_rfl) (fun _ _ _ h => h) (Or.inl ⟨by kernel_rfl, ?_⟩) (by assumption) ?_
      rotate_left 1
      · intro w' hSw
        (try dsimp only at hSw)
        obtain ⟨z0, z1, z2, z3⟩ := hSw
        go_simp
        all_goals (with_reducible rfl)
      try (conv => arg 8; simp only [Act.put, List.setIfInBounds_toArray, List.set_cons_zero, List.set_cons_succ])
      refine wpAnyH_take (i := 10) (oi := { dst := some 21, op := Op.load 27 (Operand.tmp 20), type := 27, pos := "law.go:24", after := #[{ on := 9, ground := Ground.data }], guard := none }) (v := ?_) rfl (by kernel_rfl) (by kernel_rfl) (by kernel_rfl) (fun _ _ _ h => h) (Or.inl ⟨by kernel_rfl, ?_⟩) (by assumption) ?_
      rotate_left 1
      · intro w' hSw
        (try dsimp only at hSw)
        obtain ⟨z0, z1, z2, z3⟩ := hSw
        go_simp
        all_goals (with_reducible rfl)
      try (conv => arg 8; simp only [Act.put, List.setIfInBounds_toArray, List.set_cons_zero, List.set_cons_succ])
      refine wpAnyH_take (i := 11) (oi := { dst := some 22, op := Op.move (Operand.tmp 0), type := 28, pos := "law.go:24", after := #[], guard := none }) (v := ?_) rfl (by kernel_rfl) (by kernel_rfl) (by kernel_rfl) (fun _ _ _ h => h) (Or.inl ⟨by kernel_rfl, ?_⟩) (by assumption) ?_
      rotate_left 1
      · intro w' hSw
        (try dsimp only at hSw)
        obtain ⟨z0, z1, z2, z3⟩ := hSw
        go_simp
        all_goals (with_reducible rfl)
      try (conv => arg 8; simp only [Act.put, List.setIfInBounds_toArray, List.set_cons_zero, List.set_cons_succ])
      refine wpAnyH_take (i := 12) (oi := { dst := some 23, op := Op.move (Operand.tmp 4), type := 3, pos := "law.go:24", after := #[], guard := none }) (v := ?_) rfl (by kernel_rfl) (by kernel_rfl) (by kernel_rfl) (fun _ _ _ h => h) (Or.inl ⟨by kernel_rfl, ?_⟩) (by assumption) ?_
      rotate_left 1
      · intro w' hSw
        (try dsimp only at hSw)
        obtain ⟨z0, z1, z2, z3⟩ := hSw
        go_simp
        all_goals (with_reducible rfl)
      try (conv => arg 8; simp only [Act.put, List.setIfInBounds_toArray, List.set_cons_zero, List.set_cons_succ])
      refine wpAnyH_take (i := 13) (oi := { dst := some 24, op := Op.indexAddr 28 (Operand.tmp 22) (Operand.tmp 23), type := 0, pos := "law.go:24", after := #[{ on := 11, ground := Ground.data }, { on := 12, ground := Ground.data }], guard := none }) (v := ?_) rfl (by kernel_rfl) (by kernel_rfl) (by kernel_rfl) (fun _ _ _ h => h) (Or.inl ⟨by kernel_rfl, ?_⟩) (by assumption) ?_
      rotate_left 1
      · intro w' hSw
        (try dsimp only at hSw)
        obtain ⟨z0, z1, z2, z3⟩ := hSw
        go_simp
        all_goals (with_reducible rfl)
      try (conv => arg 8; simp only [Act.put, List.setIfInBounds_toArray, List.set_cons_zero, List.set_cons_succ])
      refine wpAnyH_take (i := 14) (oi := { dst := some 25, op := Op.fieldAddr 50 (Operand.tmp 24) 2, type := 0, pos := "law.go:24", after := #[{ on := 13, ground := Ground.data }], guard := none }) (v := ?_) rfl (by kernel_rfl) (by kernel_rfl) (by kernel_rfl) (fun _ _ _ h => h) (Or.inl ⟨by kernel_rfl, ?_⟩) (by assumption) ?_
      rotate_left 1
      · intro w' hSw
        (try dsimp only at hSw)
        obtain ⟨z0, z1, z2, z3⟩ := hSw
        go_simp
        all_goals (with_reducible rfl)
      try (conv => arg 8; simp only [Act.put, List.setIfInBounds_toArray, List.set_cons_zero, List.set_cons_succ])
      refine wpAnyH_take (i := 15) (oi := { dst := some 26, op := Op.load 40 (Operand.tmp 25), type := 40, pos := "law.go:24", after := #[{ on := 14, ground := Ground.data }], guard := none }) (v := ?_) rfl (by kernel_rfl) (by kernel_rfl) (by kernel_rfl) (fun _ _ _ h => h) (Or.inl ⟨by kernel_rfl, ?_⟩) (by assumption) ?_
      rotate_left 1
      · intro w' hSw
        (try dsimp only at hSw)
        obtain ⟨z0, z1, z2, z3⟩ := hSw
        go_simp
        all_goals (with_reducible rfl)
      try (conv => arg 8; simp only [Act.put, List.setIfInBounds_toArray, List.set_cons_zero, List.set_cons_succ])
      refine wpAnyH_take (i := 16) (oi := { dst := some 27, op := Op.build 64 #[(0, Operand.tmp 16), (1, Operand.tmp 21), (2, Operand.tmp 26)], type := 64, pos := "law.go:24", after := #[{ on := 5, ground := Ground.data }, { on := 10, ground := Ground.data }, { on := 15, ground := Ground.data }], guard := none }) (v := ?_) rfl (by kernel_rfl) (by kernel_rfl) (by kernel_rfl) (fun _ _ _ h => h) (Or.inl ⟨by kernel_rfl, ?_⟩) (by assumption) ?_
      rotate_left 1
      · intro w' hSw
        (try dsimp only at hSw)
        obtain ⟨z0, z1, z2, z3⟩ := hSw
        go_simp
        all_goals (with_reducible rfl)
      try (conv => arg 8; simp only [Act.put, List.setIfInBounds_toArray, List.set_cons_zero, List.set_cons_succ])
      clear hHeld
      have hk0 : Below W4.heap.size W4 W4.drew := (Below.refl _ _).drew
      have hO := own_below HO.out hk0
      have hBw := HB.out.size
      refine wpAnyH_ready (rs := [17]) (by kernel_rfl) (by simp) ?_
      refine AllReadyH.cons (o := { dst := some 28, op := Op.buildSlice 37 1 #[(0, Operand.tmp 27)], type := 37, pos := "law.go:24", after := #[{ on := 16, ground := Ground.data }], guard := none }) rfl (fun K hK => ?_) AllReadyH.nil
      refine want (by kernel_rfl) ?_
      refine op_bs1 (E := 64) run_bsR 28 _ q rfl rfl rfl ?_
      intro gt y0 hT et hb
      clear et
      replace hO := own_below hO hb
      have hk1 := kf_step hb hk0
      clear hb
      refine hK.out _ _ (hKP.out _ hk1) (fun hHeld => ?_)
      clear hK K
      try (conv => arg 8; simp only [Act.put, List.setIfInBounds_toArray, List.set_cons_zero, List.set_cons_succ])
      clear hHeld
      refine wpAnyH_ready (rs := [18]) (by kernel_rfl) (by simp) ?_
      refine AllReadyH.cons (o := { dst := some 29, op := Op.call { callee := Callee.builtin Builtin.append, args := #[Operand.tmp 11, Operand.tmp 28], argTypes := #[37, 37] }, type := 37, pos := "law.go:24", after := #[{ on := 0, ground := Ground.data }, { on := 17, ground := Ground.data }], guard := none }) rfl (fun K hK => ?_) AllReadyH.nil
      refine want (by kernel_rfl) ?_
      refine op_app (T := 37) (E := 64) (by kernel_rfl) infR 29 _ _ rfl rfl w.heap.size _ k (L.take k) rfl hO (some ⟨gt, 0, none⟩) 1 1 [q] rfl rfl (OneP.pcs hT) (by omega) (by have := hk1.size; omega) ?_
      intro v2 y1 hO2 hgr hat
      have hkW : Hid (Below w.heap.size w y1) := Lib.hid ((HB.out.trans (hk1.mono hBw)).grown hgr (by have := hk1.size; omega) (own_from hO))
      have hO3 := Lib.hid hO2
      obtain ⟨s0, s1, s2, s3⟩ := hKP.out _ hk1
      have hgo : ∀ {j : Nat} {v : Value}, y0.cell? ⟨b, j, none⟩ = some v → y1.cell? ⟨b, j, none⟩ = some v := fun {j v} hv => (World.cell?_of_block (w := y0) (a := ⟨b, j, none⟩) (hgr.block b (World.block_lt_of_cell? _ _ hv) (fun e => by have := own_from hO b e.symm; omega))).trans hv
      have hS : (y1.cell? ⟨b, o + k * 4, none⟩ = some (.int .i64 q.1.1) ∧ y1.cell? ⟨b, o + k * 4 + 1, none⟩ = some (.int .i64 q.1.2) ∧ y1.cell? ⟨b, o + k * 4 + 2, none⟩ = some (.int .i64 q.2.1) ∧ y1.cell? ⟨b, o + k * 4 + 3, none⟩ = some (.int .i64 q.2.2)) := ⟨hgo s0, hgo s1, hgo s2, hgo s3⟩
      refine hK.out _ _ hS (fun hHeld => ?_)
      clear hK K
      try (conv => arg 8; simp only [Act.put, List.setIfInBounds_toArray, List.set_cons_zero, List.set_cons_succ])
      refine wpAnyH_take (i := 19) (oi := { dst := some 3, op := Op.assign (Operand.tmp 29), type := 37, pos := "law.go:24", after := #[{ on := 18, ground := Ground.data }, { on := 18, ground := Ground.chain }, { on := 0, ground := Ground.phase }, { on := 1, ground := Ground.phase }, { on := 2, ground := Ground.phase }, { on := 3, ground := Ground.phase }, { on := 4, ground := Ground.phase }, { on := 5, ground := Ground.phase }, { on := 6, ground := Ground.phase }, { on := 7, ground := Ground.phase }, { on := 8, ground := Ground.phase }, { on := 9, ground := Ground.phase }, { on := 10, ground := Ground.phase }, { on := 11, ground := Ground.phase }, { on := 12, ground := Ground.phase }, { on := 13, ground := Ground.phase }, { on := 14, ground := Ground.phase }, { on := 15, ground := Ground.phase }, { on := 16, ground := Ground.phase }, { on := 17, ground := Ground.phase }, { on := 18, ground := Ground.phase }], guard := none }) (v := ?_) rfl (by kernel_rfl) (by kernel_rfl) (by kernel_rfl) (fun _ _ _ h => h) (Or.inl ⟨by kernel_rfl, ?_⟩) (by assumption) ?_
      rotate_left 1
      · intro w' hSw
        (try dsimp only at hSw)
        obtain ⟨z0, z1, z2, z3⟩ := hSw
        go_simp
        all_goals (with_reducible rfl)
      try (conv => arg 8; simp only [Act.put, List.setIfInBounds_toArray, List.set_cons_zero, List.set_cons_succ])
      refine wpAnyH_done (by kernel_rfl) ?_ _
      try simp only [Act.put, List.getElem_toArray, List.getElem_cons_succ, List.getElem_cons_zero, List.setIfInBounds_toArray, List.set_cons_zero, List.set_cons_succ]
      go_wp2
      exact ⟨⟨k + 1, by omega, by go_num, by rw [HX.out]; exact hO3, hkW⟩, by simp [RowKit.intOf]; omega⟩
    · obtain rfl : k = n := by omega
      obtain ⟨q, c', rfl⟩ := own_slice HO.out
      have hT : L.take k = L := List.take_of_length_le (by rw [HLn.out]; exact Nat.le_refl _)
      have hO := HO.out
      rw [hT] at hO
      have HQ := Lib.hid (pcs_own hO HLn.out)
      clear hT hO HO
      go_wp2
      go_ret
      exact ⟨q, c', rfl, HQ.out, HB.out⟩

end Go.Proofs.Ytamglmenljgbdaa
